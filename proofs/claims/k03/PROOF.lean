import PyProof.Rows.All
import HandS.RepeatKit
import HandS.Conv
import PyProof.ZipIter
import HandS.Zip
import HandS.Iter
import HandS.ForMost
import HandS.Exc
import HandS.TryOnly
import HandS.WordsExc
import HandS.Flow
import HandS.TupAny
import HandS.Walk
import HandS.IsInst
import HandS.Gcd
import KE.SortData
import KE.DataMinMax
import PyProof.TypeEq
import PyProof.InstEq
import HandS.Deep
import HandS.Style
import PyProof.Transfer
import PyProof.ListCopy
import PyProof.TypeOfCall
import HandS.NoneIn
import PySem.Challenge.RW_wishshapes_k03_whole_two_fences
import Open.Row
set_option Elab.async false
set_option linter.all false
set_option maxRecDepth 100000
set_option maxHeartbeats 8000000
/-! Cb0: itertools.combinations(xs, r), at the library's level. -/
namespace Cb
open PySem PySem.Spec
open Sem (wp)

theorem mro_cb : mroOf (.type "itertools.combinations") = pure [.type "itertools.combinations", .type "object"] := by rw [mroOf_type]; kernel_rfl
theorem lookup_cb_new : typeLookup (.type "itertools.combinations") "__new__" = pure (some (.builtin "itertools.combinations.__new__")) := by rw [typeLookup_type, builtinLookup_eq_fast]; kernel_rfl
theorem slot_cb_init : Slot "itertools.combinations" "__init__" "object.__init__" :=
  .of (owner := "object") (n := "__init__") (by rw [typeLookup_type, builtinLookup_eq_fast]; kernel_rfl) (by decide +kernel) (by decide +kernel) (by decide +kernel)
    (by first | exact .inl (by decide +kernel) | exact .inr (by decide +kernel)) (by rw [isSubtype_type]; kernel_rfl)
theorem sub_cb : isSubtype (.type "itertools.combinations") (.type "itertools.combinations") = pure true := by rw [isSubtype_type]; kernel_rfl
theorem called_cb : TypeCalled "itertools.combinations" "itertools.combinations.__new__" "object.__init__" :=
  ⟨by decide +kernel, by decide +kernel, ⟨_, _, mro_cb⟩, madeBy_type mro_cb lookup_cb_new (by decide +kernel), by decide +kernel, sub_cb, slot_cb_init⟩
theorem typeCall_cb_2 (a b : Value) : checkTypeCall "itertools.combinations" ⟨[a, b], []⟩ = pure () := by kernel_rfl
theorem newCall_cb_2 (a b : Value) : checkBuiltinCall "itertools.combinations.__new__" ⟨[.type "itertools.combinations", a, b], []⟩ = pure () := by kernel_rfl
theorem entry_cb_new : entryFor table "itertools.combinations.__new__" = some Builtin.«itertools.combinations.__new__» := entryFor_of_tree (by kernel_rfl)
theorem slot_cb_iter : Slot "itertools.combinations" "__iter__" "itertools.combinations.__iter__" :=
  .of (owner := "itertools.combinations") (n := "__iter__") (by rw [typeLookup_type, builtinLookup_eq_fast]; kernel_rfl) (by decide +kernel) (by decide +kernel) (by decide +kernel)
    (by first | exact .inl (by decide +kernel) | exact .inr (by decide +kernel)) sub_cb
theorem slot_cb_next : Slot "itertools.combinations" "__next__" "itertools.combinations.__next__" :=
  .of (owner := "itertools.combinations") (n := "__next__") (by rw [typeLookup_type, builtinLookup_eq_fast]; kernel_rfl) (by decide +kernel) (by decide +kernel) (by decide +kernel)
    (by first | exact .inl (by decide +kernel) | exact .inr (by decide +kernel)) sub_cb
theorem entry_cb_iter : entryFor table "itertools.combinations.__iter__" = some Builtin.«dict_keyiterator.__iter__» :=
  entryFor_alias (id' := "dict_keyiterator.__iter__") (by kernel_rfl) (by first | rfl | decide +kernel | (unfold String.splitOn; simp +decide [String.splitOnAux])) (by decide +kernel) (by kernel_rfl)
theorem entry_cb_next : entryFor table "itertools.combinations.__next__" = some Builtin.«itertools.combinations.__next__» := entryFor_of_tree (by kernel_rfl)
theorem owner_cb : Manifest.owners.lookup (String.ofList "itertools.combinations".toList.reverse.reverse) = some Manifest.sig_itertools_combinations := by kernel_rfl
theorem args_cb_iter (a : Value) : argsOk "itertools.combinations.__iter__" ⟨[a], []⟩ := by
  unfold argsOk; rw [signature?_of (id := "itertools.combinations.__iter__") (n := "__iter__".toList.reverse) (o := "itertools.combinations".toList.reverse) (by kernel_rfl) owner_cb]; kernel_rfl
theorem args_cb_next (a : Value) : argsOk "itertools.combinations.__next__" ⟨[a], []⟩ := by
  unfold argsOk; rw [signature?_of (id := "itertools.combinations.__next__") (n := "__next__".toList.reverse) (o := "itertools.combinations".toList.reverse) (by kernel_rfl) owner_cb]; kernel_rfl
theorem noDict_cb : typeHasDict (.type "itertools.combinations") = false := by decide +kernel
end Cb

namespace Cb
open PySem PySem.Spec PyProof.Rows
open Sem (wp)
/-- the record at it -/
abbrev cbObj (pool : Addr) (st : Int) (last : Value) (idx : List Nat) : Obj := { cls := .type "itertools.combinations", dict := none, data := .fields ([.ref pool, .int st 0, last] ++ idx.map fun i : Nat => Value.int i 0).toArray, slots := #[] }
section
variable {prog : Program} {w : World} {A : Around} {E : Value → Shared → Prop} {s : Shared}
theorem code_cb_new {it : Value} {r : Int} {t : Tok} {P : List Value → Prop} {Q₁ : Value → Shared → Prop} (h0 : 0 ≤ r) (h1 : r ≤ 1000)
    (hcol : ∀ (Q : List Value → Shared → Prop) (E' : Value → Shared → Prop), (∀ (h' : Heap) (tk : Nat) (us : List Value), (∀ b o, s.heap.get? b = some o → h'.get? b = some o) → P us → Q us { s with heap := h', toks := tk }) → wpAny (model prog w) A.in1 (collect it) Q E' s)
    (hP : ∀ us, P us → us.length ≤ sizeLine)
    (h : ∀ (h' : Heap) (tk : Nat) (us : List Value), (∀ b o, s.heap.get? b = some o → h'.get? b = some o) → P us →
      Q₁ (.ref (h'.push { cls := .type "tuple", data := .seq us.toArray }).objs.size) { s with heap := (h'.push { cls := .type "tuple", data := .seq us.toArray }).push (cbObj h'.objs.size (if r.toNat > us.length then 2 else 0) .none (List.range r.toNat)), toks := tk }) :
    codeAny (model prog w) A (.call (.builtin "itertools.combinations.__new__") ⟨[.type "itertools.combinations", it, .int r t], []⟩) (wants Q₁ E) s := by
  refine codeAny_of_tree ?_
  show wpAny _ A.in1 (do checkBuiltinCall "itertools.combinations.__new__" ⟨[.type "itertools.combinations", it, .int r t], []⟩; again (.builtin "itertools.combinations.__new__" ⟨[.type "itertools.combinations", it, .int r t], []⟩)) _ _ s
  refine wpAny_bind (wpAny_of_eq (newCall_cb_2 _ _) (wpAny_pure ⟨plainId_quiet (by decide +kernel) _, codeAny_builtin entry_cb_new ?_⟩))
  rw [Around.under_plainId (by decide +kernel) _]
  have hd := noDict_cb
  have hr : (decide (r < -(2 ^ 63 : Int)) || decide (r ≥ (2 ^ 63 : Int))) = false := by
    rw [decide_eq_false (by omega), decide_eq_false (by omega)]; rfl
  have hbig : Builtin.Itertools.itTooMany r = false := by
    unfold Builtin.Itertools.itTooMany
    exact decide_eq_false (by omega)
  have bn : Builtin.Itertools.itBindNamed "combinations" ["iterable", "r"] 2 2 [it, .int r t] [] = (pure [some it, some (.int r t)] : Sem _) := by kernel_rfl
  have sz : Builtin.Itertools.itSsizeArg (.int r t) = (pure r : Sem _) := by
    unfold Builtin.Itertools.itSsizeArg
    show (if (decide (r < -(2 ^ 63 : Int)) || decide (r ≥ (2 ^ 63 : Int))) = true then _ else pure r) = (pure r : Sem _)
    rw [hr]; rfl
  have cr : Builtin.Itertools.itClassAndRest "combinations" ⟨[.type "itertools.combinations", it, .int r t], []⟩ = (isSubtype (.type "itertools.combinations") (.type "itertools.combinations") >>= fun b => if (!b) = true then (do
        rule "itertools.__new__.not-a-subtype"; let a ← typeName (.type "itertools.combinations"); let b ← typeName (.type "itertools.combinations")
        raiseError "TypeError" s!"{"itertools." ++ "combinations"}.__new__({a}): {b} is not a subtype of {"itertools." ++ "combinations"}"; pure (.type "itertools.combinations", [it, .int r t])) else pure (.type "itertools.combinations", [it, .int r t]) : Sem _) := by kernel_rfl
  rw [sub_cb] at cr
  show wpAny _ A.in1 ((Builtin.Itertools.itClassAndRest "combinations" ⟨[.type "itertools.combinations", it, .int r t], []⟩ >>= _) >>= _) _ _ s
  rw [cr]
  refine wpAny_bind (wpAny_bind (wpAny_bind (wpAny_pure ?_)))
  rw [if_neg (by decide)]
  refine wpAny_pure ?_
  dsimp only
  rw [bn]
  refine wpAny_bind (wpAny_pure ?_)
  dsimp only
  rw [sz]
  refine wpAny_bind (wpAny_pure ?_)
  refine wpAny_bind (hcol _ _ fun h' tk us hk hp => ?_)
  rw [if_neg (by omega), hbig]
  rw [if_neg (by decide)]
  refine wpAny_bind ?_
  unfold newTuple
  refine wpAny_newObj_type ?_ (by have := hP us hp; show us.toArray.size ≤ sizeLine; simpa using this)
  refine wpAny_pure ?_
  refine wpAny_bind ?_
  unfold Builtin.Itertools.itNewRecord
  dsimp only
  rw [hd]
  rw [if_pos (by decide)]
  refine wpAny_newObj_type ?_ ?_
  · refine wpAny_pure ?_
    have e := h h' tk us hk hp
    exact e
  · first | trivial | (show _ ≤ sizeLine + 2; simp [sizeLine_eq]; omega)
theorem call_cb {it : Value} {r : Int} {t : Tok} {P : List Value → Prop} {Q : Value → Shared → Prop} (h0 : 0 ≤ r) (h1 : r ≤ 1000)
    (hcol : ∀ (A' : Around) (Q : List Value → Shared → Prop) (E' : Value → Shared → Prop), A'.handled = A.handled → (∀ (h' : Heap) (tk : Nat) (us : List Value), (∀ b o, s.heap.get? b = some o → h'.get? b = some o) → P us → Q us { s with heap := h', toks := tk }) → wpAny (model prog w) A' (collect it) Q E' s)
    (hP : ∀ us, P us → us.length ≤ sizeLine)
    (h : ∀ (h' : Heap) (tk : Nat) (us : List Value), (∀ b o, s.heap.get? b = some o → h'.get? b = some o) → P us →
      Q (.ref (h'.push { cls := .type "tuple", data := .seq us.toArray }).objs.size) { s with heap := (h'.push { cls := .type "tuple", data := .seq us.toArray }).push (cbObj h'.objs.size (if r.toNat > us.length then 2 else 0) .none (List.range r.toNat)), toks := tk }) :
    wpAny (model prog w) A (call (.type "itertools.combinations") [it, .int r t]) Q E s := by
  refine callType_codes (Q₁ := fun obj s₁ => s₁.TypeIs obj "itertools.combinations" ∧ Q obj s₁) called_cb (typeCall_cb_2 _ _) F.entry_object_init
    (code_cb_new (A := A.in1) (P := P) h0 h1 (fun Q E' hq => hcol _ Q E' rfl hq) hP fun h' tk us hk hp => ⟨⟨_, Heap.get?_push_size _ rfl, rfl⟩, ?_⟩) fun obj s₁ h₁ => ?_
  · exact h h' tk us hk hp
  · exact ⟨h₁.1, F.args_object_init_3 obj _ _, object_init_meets called_cb.init.lookup called_cb.made (by decide +kernel) prog w A.in1 _ s₁ ⟨h₁.1, rfl, h₁.2⟩⟩

/-- the next indices -/
def nextC (n : Nat) (indices : List Nat) : Option (List Nat) :=
  let r := indices.length
  match (List.range r).reverse.find? fun i => indices.getD i 0 != i + n - r with
  | none => none
  | some i => some (indices.take i ++ (List.range (r - i)).map (indices.getD i 0 + 1 + ·))
def pickV (us : Array Value) (idx : List Nat) : List Value := idx.map fun i => us.getD i .none
theorem idx_back (pool : Addr) (st : Int) (last : Value) (idx : List Nat) : List.map (fun x : Value => match x with | .int n _ => n.toNat | _ => 0) (List.drop 3 ([Value.ref pool, Value.int st 0, last] ++ idx.map fun i : Nat => Value.int i 0).toArray.toList) = idx := by
  have e : (List.drop 3 ([Value.ref pool, Value.int st 0, last] ++ idx.map fun i : Nat => Value.int i 0).toArray.toList) = idx.map fun i : Nat => Value.int i 0 := by simp
  rw [e, List.map_map]
  induction idx with
  | nil => rfl
  | cons x l ih => rw [List.map_cons, ih (by simp)]; rfl
/-- the tuple at pool -/
abbrev tupO (us : Array Value) : Obj := { cls := .type "tuple", data := .seq us }
theorem set1 (pool : Addr) (st st' : Int) (last : Value) (idx : List Nat) : (([Value.ref pool, Value.int st 0, last] ++ idx.map fun i : Nat => Value.int i 0).toArray).setIfInBounds 1 (rawInt st') = ([Value.ref pool, Value.int st' 0, last] ++ idx.map fun i : Nat => Value.int i 0).toArray := by
  simp [rawInt]
theorem set2 (pool : Addr) (st : Int) (last x : Value) (idx : List Nat) : (([Value.ref pool, Value.int st 0, last] ++ idx.map fun i : Nat => Value.int i 0).toArray).setIfInBounds 2 x = ([Value.ref pool, Value.int st 0, x] ++ idx.map fun i : Nat => Value.int i 0).toArray := by
  simp
theorem set3 (pool : Addr) (st : Int) (last : Value) (idx j : List Nat) : (([Value.ref pool, Value.int st 0, last] ++ idx.map fun i : Nat => Value.int i 0).toArray).extract 0 3 ++ (j.map fun n : Nat => rawInt n).toArray = ([Value.ref pool, Value.int st 0, last] ++ j.map fun i : Nat => Value.int i 0).toArray := by
  simp [rawInt]
theorem hand_ok {it pool : Addr} {st : Int} {last : Value} {idx : List Nat} {us : Array Value} {Q : Fin → Shared → Prop} (hne : it ≠ pool) (hz : idx.length ≤ 1000) (hit : s.heap.get? it = some (cbObj pool st last idx)) (hp : s.heap.get? pool = some (tupO us))
    (h : ∀ h', h'.get? it = some (cbObj pool st (.ref s.heap.objs.size) idx) → h'.get? s.heap.objs.size = some (tupO (pickV us idx).toArray) → (∀ c o, c ≠ it → s.heap.get? c = some o → h'.get? c = some o) → Q (.done (.ret (.ref s.heap.objs.size))) { s with heap := h' }) :
    wpAny (model prog w) A ((do
      let items ← Builtin.Itertools.itPoolItems (.ref pool)
      newTuple (idx.map fun i => items.getD i .none)) >>= fun result => (do
      let before ← field (.ref it) 2
      setField (.ref it) 2 result
      letGo [before] [result]
      ret result : Sem Fin)) Q E s := by
  refine wpAny_bind ?_
  refine wpAny_bind ?_
  unfold Builtin.Itertools.itPoolItems
  refine wpAny_bind (wpAny_seqItems hp rfl (wpAny_pure ?_))
  unfold newTuple
  refine wpAny_newObj_type ?_ (by show (List.toArray _).size ≤ sizeLine; simp [sizeLine_eq]; omega)
  have hit1 : (s.heap.push (tupO (pickV us idx).toArray)).get? it = some (cbObj pool st last idx) := Heap.get?_push_of_some _ hit
  refine wpAny_bind (wpAny_field hit1 rfl (x := last) (by simp) ?_)
  refine wpAny_bind (wpAny_setField_rec hit1 (by simp) fun h2 hit2 hs2 => ?_)
  rw [set2] at hit2
  refine wpAny_bind (wpAny_letGo ?_)
  refine wpAny_pure (h h2 hit2 ?_ fun c o hc e => (hs2.2 c hc).trans (Heap.get?_push_of_some _ e))
  exact (hs2.2 _ (Nat.ne_of_gt (Heap.lt_size hit))).trans (Heap.get?_push_size _ rfl)
theorem cb_item {it pool : Addr} {st : Int} {last : Value} {idx j : List Nat} {us : Array Value} {Q : Fin → Shared → Prop} (hne : it ≠ pool) (hz : j.length ≤ 1000) (hit : s.heap.get? it = some (cbObj pool st last idx)) (hp : s.heap.get? pool = some (tupO us))
    (hst : (st = 0 ∧ j = idx) ∨ (st = 1 ∧ nextC us.size idx = some j))
    (h : ∀ h', h'.get? it = some (cbObj pool 1 (.ref s.heap.objs.size) j) → h'.get? s.heap.objs.size = some (tupO (pickV us j).toArray) → (∀ c o, c ≠ it → s.heap.get? c = some o → h'.get? c = some o) → Q (.done (.ret (.ref s.heap.objs.size))) { s with heap := h' }) :
    wpAny (model prog w) A (Builtin.«itertools.combinations.__next__» ⟨[.ref it], []⟩) Q E s := by
  unfold Builtin.«itertools.combinations.__next__»
  show wpAny _ _ (field (.ref it) 0 >>= _) _ _ s
  refine wpAny_bind (wpAny_field hit rfl (x := .ref pool) rfl ?_)
  show wpAny _ _ (Builtin.Itertools.itNumbersFrom (.ref it) 3 >>= _) _ _ s
  have e : Builtin.Itertools.itNumbersFrom (.ref it) 3 = (load it >>= fun o => match o.data with | .fields fs => pure ((fs.toList.drop 3).map fun | .int n _ => n.toNat | _ => 0) | _ => unsupported "internal:itertools.numbers" : Sem _) := by rfl
  rw [e]
  refine wpAny_bind (wpAny_bind (wpAny_load hit ?_))
  refine wpAny_pure ?_
  have ib := idx_back pool st last idx
  dsimp only at ib ⊢
  generalize List.map _ (List.drop 3 _) = q at ib ⊢
  subst ib
  have e2 : Builtin.Itertools.itIntField (.ref it) 1 = (field (.ref it) 1 >>= fun v => match v with | .int n _ => pure n | _ => unsupported "internal:itertools.int-field" : Sem _) := by rfl
  rw [e2]
  refine wpAny_bind (wpAny_bind (wpAny_field hit rfl (x := .int st 0) (by simp) ?_))
  refine wpAny_pure ?_
  rcases hst with ⟨rfl, rfl⟩ | ⟨rfl, hn⟩
  · refine wpAny_bind (wpAny_setField_rec hit (by simp) fun h1 hit1 hs1 => ?_)
    rw [set1] at hit1
    have z : h1.objs.size = s.heap.objs.size := hs1.1
    refine hand_ok (s := { s with heap := h1 }) hne hz hit1 ((hs1.2 _ (Ne.symm hne)).trans hp) fun h' a1 a2 a3 => ?_
    dsimp only at a1 a2 ⊢
    rw [z] at a1 a2 ⊢
    exact h h' a1 a2 fun c o hc q => a3 c o hc ((hs1.2 c hc).trans q)
  · show wpAny _ _ (Builtin.Itertools.itPoolItems (.ref pool) >>= _) _ _ s
    refine wpAny_bind ?_
    unfold Builtin.Itertools.itPoolItems
    refine wpAny_bind (wpAny_seqItems hp rfl (wpAny_pure ?_))
    show wpAny _ _ (match nextC us.size q with
      | some next => Builtin.Itertools.itSetNumbersFrom (.ref it) 3 next >>= fun _ => ((do
          let items ← Builtin.Itertools.itPoolItems (.ref pool)
          newTuple (next.map fun i => items.getD i .none)) >>= fun result => (do
          let before ← field (.ref it) 2
          setField (.ref it) 2 result
          letGo [before] [result]
          ret result : Sem Fin))
      | none => (do setField (.ref it) 1 (rawInt 2); Builtin.Itertools.itStop)) _ _ s
    rw [hn]
    have e3 : Builtin.Itertools.itSetNumbersFrom (.ref it) 3 j = (updateFields it fun fs => fs.extract 0 3 ++ (j.map fun (n : Nat) => rawInt n).toArray : Sem _) := by rfl
    dsimp only
    rw [e3]
    refine wpAny_bind (wpAny_updateFields hit rfl ?_ (by simp [sizeLine_eq]; omega))
    have hit1 : (s.heap.update it (Obj.mapFields fun fs => fs.extract 0 3 ++ (j.map fun (n : Nat) => rawInt n).toArray)).get? it = some (cbObj pool 1 last j) := by
      refine (Heap.get?_update_self _ hit rfl).trans ?_
      have := set3 pool 1 last q j
      show some (Obj.mapFields _ (cbObj pool 1 last q)) = _
      unfold Obj.mapFields
      dsimp only
      rw [this]
    have z : (s.heap.update it (Obj.mapFields fun fs => fs.extract 0 3 ++ (j.map fun (n : Nat) => rawInt n).toArray)).objs.size = s.heap.objs.size := (Heap.SameBut.update ..).1
    have oth : ∀ c o, c ≠ it → s.heap.get? c = some o → (s.heap.update it (Obj.mapFields fun fs => fs.extract 0 3 ++ (j.map fun (n : Nat) => rawInt n).toArray)).get? c = some o := fun c o hc q => (Heap.get?_update_other _ _ (Ne.symm hc)).trans q
    refine hand_ok (s := { s with heap := _ }) hne hz hit1 (oth _ _ (Ne.symm hne) hp) fun h' a1 a2 a3 => ?_
    dsimp only at a1 a2 ⊢
    rw [z] at a1 a2 ⊢
    exact h h' a1 a2 fun c o hc q => a3 c o hc (oth c o hc q)
end
end Cb

namespace Cb
open PySem PySem.Spec PyProof.Rows
section
variable {prog : Program} {w : World} {A : Around} {E : Value → Shared → Prop} {s : Shared}
theorem stop_ok {Q : PySem.Fin → Shared → Prop} (hh : A.handled = none)
    (hE : ∀ h' e, (∀ c o, s.heap.get? c = some o → h'.get? c = some o) → (∃ o, h'.get? e = some o ∧ o.cls = .type "StopIteration") → E (.ref e) { s with heap := h' }) :
    wpAny (model prog w) A (Builtin.Itertools.itStop : Sem PySem.Fin) Q E s := by
  show wpAny _ _ (newExc (.type "StopIteration") [] >>= fun e => raiseNew e) _ _ _
  refine wpAny_bind ?_
  simp only [newExc, newTuple]
  refine wpAny_bind (wpAny_newObj_type ?_ (by size_fits))
  refine wpAny_bind (m := firstArgMember _ _) (wpAny_of_eq (a := Value.none) (by first | rfl | (simp only [firstArgMember]; rfl)) ?_)
  refine wpAny_newObj_type ?_ (by size_fits)
  simp only [raiseNew]
  refine wpAny_bind (wpAny_handled ?_)
  first | rw [show A.in1.handled = none from hh] | rw [hh]
  refine wpAny_bind (wpAny_pure (wpAny_throw ?_))
  exact hE _ _ (fun c o q => Heap.get?_push_of_some _ (Heap.get?_push_of_some _ q)) ⟨_, Heap.get?_push_size _ rfl, rfl⟩
theorem cb_end {it pool : Addr} {st : Int} {last : Value} {idx : List Nat} {us : Array Value} {Q : PySem.Fin → Shared → Prop} (hh : A.handled = none) (hne : it ≠ pool) (hit : s.heap.get? it = some (cbObj pool st last idx)) (hp : s.heap.get? pool = some (tupO us))
    (hst : st = 2 ∨ (st = 1 ∧ nextC us.size idx = none))
    (hE : ∀ h' e, (∀ c o, c ≠ it → s.heap.get? c = some o → h'.get? c = some o) → (∃ o, h'.get? e = some o ∧ o.cls = .type "StopIteration") → E (.ref e) { s with heap := h' }) :
    wpAny (model prog w) A (Builtin.«itertools.combinations.__next__» ⟨[.ref it], []⟩) Q E s := by
  unfold Builtin.«itertools.combinations.__next__»
  show wpAny _ _ (field (.ref it) 0 >>= _) _ _ s
  refine wpAny_bind (wpAny_field hit rfl (x := .ref pool) rfl ?_)
  show wpAny _ _ (Builtin.Itertools.itNumbersFrom (.ref it) 3 >>= _) _ _ s
  have e : Builtin.Itertools.itNumbersFrom (.ref it) 3 = (load it >>= fun o => match o.data with | .fields fs => pure ((fs.toList.drop 3).map fun | .int n _ => n.toNat | _ => 0) | _ => unsupported "internal:itertools.numbers" : Sem _) := by rfl
  rw [e]
  refine wpAny_bind (wpAny_bind (wpAny_load hit ?_))
  refine wpAny_pure ?_
  have ib := idx_back pool st last idx
  dsimp only at ib ⊢
  generalize List.map _ (List.drop 3 _) = q at ib ⊢
  subst ib
  have e2 : Builtin.Itertools.itIntField (.ref it) 1 = (field (.ref it) 1 >>= fun v => match v with | .int n _ => pure n | _ => unsupported "internal:itertools.int-field" : Sem _) := by rfl
  rw [e2]
  refine wpAny_bind (wpAny_bind (wpAny_field hit rfl (x := .int st 0) (by simp) ?_))
  refine wpAny_pure ?_
  rcases hst with rfl | ⟨rfl, hn⟩
  · refine wpAny_bind (wpAny_rule ?_)
    exact stop_ok hh fun h' e k he => hE h' e (fun c o _ q => k c o q) he
  · show wpAny _ _ (Builtin.Itertools.itPoolItems (.ref pool) >>= _) _ _ s
    refine wpAny_bind ?_
    unfold Builtin.Itertools.itPoolItems
    refine wpAny_bind (wpAny_seqItems hp rfl (wpAny_pure ?_))
    show wpAny _ _ (match nextC us.size q with
      | some next => Builtin.Itertools.itSetNumbersFrom (.ref it) 3 next >>= fun _ => ((do
          let items ← Builtin.Itertools.itPoolItems (.ref pool)
          newTuple (next.map fun i => items.getD i .none)) >>= fun result => (do
          let before ← field (.ref it) 2
          setField (.ref it) 2 result
          letGo [before] [result]
          ret result : Sem PySem.Fin))
      | none => (do setField (.ref it) 1 (rawInt 2); Builtin.Itertools.itStop)) _ _ s
    rw [hn]
    dsimp only
    refine wpAny_bind (wpAny_setField_rec hit (by simp) fun h1 hit1 hs1 => ?_)
    exact stop_ok hh fun h' e k he => hE h' e (fun c o hc q => k c o ((hs1.2 c hc).trans q)) he
theorem next_item {it pool : Addr} {st : Int} {last : Value} {idx j : List Nat} {us : Array Value} {Q : Option Value → Shared → Prop} (hne : it ≠ pool) (hz : j.length ≤ 1000) (hit : s.heap.get? it = some (cbObj pool st last idx)) (hp : s.heap.get? pool = some (tupO us))
    (hst : (st = 0 ∧ j = idx) ∨ (st = 1 ∧ nextC us.size idx = some j))
    (h : ∀ h', h'.get? it = some (cbObj pool 1 (.ref s.heap.objs.size) j) → h'.get? s.heap.objs.size = some (tupO (pickV us j).toArray) → (∀ c o, c ≠ it → s.heap.get? c = some o → h'.get? c = some o) → Q (some (.ref s.heap.objs.size)) { s with heap := h' }) :
    wpAny (model prog w) A (pyNext (.ref it)) Q E s := by
  have hT : s.TypeIs (.ref it) "itertools.combinations" := ⟨_, hit, rfl⟩
  unfold pyNext
  exact wpAny_bind (wpAny_attempt (wpAny_callSpecial?_slot (name := Str.ofString "__next__") hT slot_cb_next
    (wpAny_call_entry slot_cb_next hT entry_cb_next
      (cb_item hne hz hit hp hst fun h' a1 a2 a3 => ⟨_, rfl, wpAny_pure (h h' a1 a2 a3)⟩) (args_cb_next _))))
theorem next_end {it pool : Addr} {st : Int} {last : Value} {idx : List Nat} {us : Array Value} {Q : Option Value → Shared → Prop} (hh : A.handled = none) (hne : it ≠ pool) (hit : s.heap.get? it = some (cbObj pool st last idx)) (hp : s.heap.get? pool = some (tupO us))
    (hst : st = 2 ∨ (st = 1 ∧ nextC us.size idx = none))
    (hQ : ∀ h', (∀ c o, c ≠ it → s.heap.get? c = some o → h'.get? c = some o) → Q none { s with heap := h' }) : wpAny (model prog w) A (pyNext (.ref it)) Q E s := by
  have hT : s.TypeIs (.ref it) "itertools.combinations" := ⟨_, hit, rfl⟩
  unfold pyNext
  refine wpAny_bind (wpAny_attempt (wpAny_callSpecial?_slot (name := Str.ofString "__next__") hT slot_cb_next
    (wpAny_call_entry slot_cb_next hT entry_cb_next (cb_end hh hne hit hp hst fun h' e hk he => ?_) (args_cb_next _))))
  obtain ⟨o, ho, hc⟩ := he
  refine wpAny_bind (wpAny_isInstance (T := "StopIteration") (b := true) ⟨o, ho, hc⟩ isSubtype_stop ?_)
  exact wpAny_pure (hQ _ hk)
theorem iter_cb {it pool : Addr} {st : Int} {last : Value} {idx : List Nat} {Q : Value → Shared → Prop} (hit : s.heap.get? it = some (cbObj pool st last idx)) (h : Q (.ref it) s) : wpAny (model prog w) A (pyIter (.ref it)) Q E s := by
  have hT : s.TypeIs (.ref it) "itertools.combinations" := ⟨_, hit, rfl⟩
  refine wpAny_pyIter_slot hT slot_cb_iter (wpAny_call_entry slot_cb_iter hT entry_cb_iter ?_ (args_cb_iter _))
  show wpAny _ _ (ret (.ref it)) _ _ s
  exact wpAny_pure ⟨_, rfl, "itertools.combinations", _, hT, slot_cb_next.lookup, h⟩
end
end Cb

/-! Cb3: combinations(..) walked, over the layer. -/
namespace Cb
open PySem PySem.Spec PyProof.Rows L2

def cbSeq (n r : Nat) : Nat → Option (List Nat)
  | 0 => if r > n then none else some (List.range r)
  | k + 1 => (cbSeq n r k).bind (nextC n)
theorem nextC_len {n : Nat} {idx j : List Nat} (h : nextC n idx = some j) : j.length = idx.length := by
  unfold nextC at h
  dsimp only at h
  split at h
  · cases h
  · rename_i i hi
    have hm := List.mem_of_find?_eq_some hi
    rw [List.mem_reverse, List.mem_range] at hm
    simp only [Option.some.injEq] at h
    subst h
    simp
    omega
theorem cbSeq_len {n r : Nat} : ∀ {k : Nat} {j : List Nat}, cbSeq n r k = some j → j.length = r
  | 0, j, h => by
    unfold cbSeq at h
    split at h
    · cases h
    · simp only [Option.some.injEq] at h
      subst h; simp
  | k + 1, j, h => by
    simp only [cbSeq, Option.bind_eq_some_iff] at h
    obtain ⟨i, h1, h2⟩ := h
    rw [nextC_len h2, cbSeq_len h1]
/-- what is handed out -/
def ItC (xs : List V) (r : Nat) : It :=
  ⟨fun i _ => ∃ j, cbSeq xs.length r i = some j,
   fun i H v H' => ∃ (T : Addr) (j : List Nat), v = .ref T ∧ H T = none ∧ H' = upd H T (.tup (j.map fun k => xs.getD k .non)) ∧ cbSeq xs.length r i = some j,
   fun i _ => cbSeq xs.length r i = none⟩
theorem vals_pick {xs : List V} {us : List Value} (r : Vals xs us) : ∀ j : List Nat, Vals (j.map fun k => xs.getD k .non) (pickV us.toArray j)
  | [] => .nil
  | k :: j => by
    refine .cons ?_ (vals_pick r j)
    have hl := r.length
    by_cases hk : k < xs.length
    · have hx : xs[k]? = some xs[k] := List.getElem?_eq_getElem hk
      obtain ⟨u, hu, ru⟩ := r.get hx
      have e1 : xs.getD k .non = xs[k] := by rw [List.getD_eq_getElem?_getD, hx]; rfl
      have e2 : us.toArray.getD k .none = u := by
        rw [Array.getD_eq_getD_getElem?, List.getElem?_toArray, hu]; rfl
      show RelV (xs.getD k .non) (us.toArray.getD k .none)
      rw [e1, e2]; exact ru
    · have e1 : xs.getD k .non = .non := by rw [List.getD_eq_getElem?_getD, List.getElem?_eq_none (by omega)]; rfl
      have e2 : us.toArray.getD k .none = .none := by
        rw [Array.getD_eq_getD_getElem?, List.getElem?_toArray, List.getElem?_eq_none (by omega)]; rfl
      show RelV (xs.getD k .non) (us.toArray.getD k .none)
      rw [e1, e2]; rfl
def CbSt (us : List Value) (pool it : Addr) (r : Nat) (i : Nat) (h : Heap) : Prop :=
  ∃ st last idx, h.get? it = some (cbObj pool st last idx) ∧ h.get? pool = some (tupO us.toArray) ∧ ((i = 0 ∧ idx = List.range r ∧ st = if r > us.length then 2 else 0) ∨ ∃ k, i = k + 1 ∧ st = 1 ∧ cbSeq us.length r k = some idx)
theorem turn_cb {P : Program} {w : World} {K : PySem.W.Frag} {tg : Expr} {xs : List V} {us : List Value} {pool it : Addr} {r : Nat} (hr : r ≤ 1000) (rv : Vals xs us) (hne : it ≠ pool) : Turn P w K tg (ItC xs r) [it, pool] it (CbSt us pool it r) where
  mem := by simp
  obj := fun i h st b hb => by
    obtain ⟨a, l, idx, h1, h2, _⟩ := st
    have e : b = it ∨ b = pool := by simpa using hb
    rcases e with rfl | rfl
    · exact ⟨_, h1, fun v z => by cases z⟩
    · exact ⟨_, h2, fun v z => by cases z⟩
  keep := fun i h h' st k => by
    obtain ⟨a, l, idx, h1, h2, h3⟩ := st
    exact ⟨a, l, idx, k it (by simp) _ h1, k pool (by simp) _ h2, h3⟩
  item := by
    intro X hP hw hK hc i pins s σ H E I hf st hg
    subst hP hw hK
    obtain ⟨a, l, idx, h1, h2, h3⟩ := st
    obtain ⟨j, hj⟩ := hg
    have hl := rv.length
    have hjl := cbSeq_len hj
    have hst : (a = 0 ∧ j = idx) ∨ (a = 1 ∧ nextC us.toArray.size idx = some j) := by
      rcases h3 with ⟨rfl, rfl, rfl⟩ | ⟨k, rfl, rfl, h4⟩
      · unfold cbSeq at hj
        split at hj
        · cases hj
        · rename_i hn
          simp only [Option.some.injEq] at hj
          exact .inl ⟨by rw [if_neg (by omega)], hj.symm⟩
      · simp only [cbSeq, hl, h4, Option.bind_some] at hj
        exact .inr ⟨rfl, by simpa using hj⟩
    refine next_item hne (by omega) h1 h2 hst fun h' a1 a2 a3 => ?_
    refine ⟨_, rfl, go_of (s := { s with heap := h' }) (n := "itertools.combinations") a1 rfl rfl (by decide) ?_⟩
    have nT : H s.heap.objs.size = none := I.hok.fresh (Nat.le_refl _)
    have new : ObjOk X.prog X.w (upd H s.heap.objs.size (.tup (j.map fun k => xs.getD k .non))) h' s.heap.objs.size (.tup (j.map fun k => xs.getD k .non)) :=
      ⟨by rw [List.length_map, sizeLine_eq]; omega, _, vals_pick rv j, ⟨_, a2, rfl, _, rfl⟩⟩
    have I1 : Inv X pins σ (upd H s.heap.objs.size (.tup (j.map fun k => xs.getD k .non))) { s with heap := h' } :=
      I.turnedNew (t' := s.toks) (ch := [it, pool]) (fun b o hb q => a3 b o (fun z => hb (by simp [z])) q) hf (Nat.le_refl _) new
    refine ⟨.ref s.heap.objs.size, _, I1, rfl, ⟨_, j, rfl, nT, rfl, hj⟩, ⟨1, _, j, a1, a3 _ _ (Ne.symm hne) h2, .inr ⟨i, rfl, rfl, by rw [← hl]; exact hj⟩⟩, fun b hb => ?_⟩
    have hlt : b < s.heap.objs.size := by
      have e : b = it ∨ b = pool := by simpa using hb
      rcases e with rfl | rfl
      · exact Heap.lt_size h1
      · exact Heap.lt_size h2
    rw [upd_ne (Nat.ne_of_lt hlt)]
    exact (hf b hb).1
  done := by
    intro X hP hw hK hc i pins s σ H E I hf st hg
    subst hP hw hK
    obtain ⟨a, l, idx, h1, h2, h3⟩ := st
    have hl := rv.length
    have hg : cbSeq xs.length r i = none := hg
    have hst : a = 2 ∨ (a = 1 ∧ nextC us.toArray.size idx = none) := by
      rcases h3 with ⟨rfl, rfl, rfl⟩ | ⟨k, rfl, rfl, h4⟩
      · unfold cbSeq at hg
        split at hg
        · rename_i hn
          exact .inl (by rw [if_pos (by omega)])
        · cases hg
      · simp only [cbSeq, hl, h4, Option.bind_some] at hg
        exact .inr ⟨rfl, by simpa using hg⟩
    exact next_end (I.ok.hd hc) hne h1 h2 hst fun h' k => ⟨rfl, I.turnedL (t' := s.toks) (ch := [it, pool]) (fun b o hb q => k b o (fun z => hb (by simp [z])) q) hf⟩
  self := fun _ _ _ _ _ st h => by
    obtain ⟨a, l, idx, h1, h2, h3⟩ := st
    exact iter_cb h1 h

/-- where the iterator has come -/
theorem cb_it {X : Cx} {tg : Expr} {pins : List (Addr × Obj)} {σ : L2.St} {H : Hp} {s : Shared} {h' : Heap} {tk : Nat} {xs : List V} {us : List Value} {r : Int} {R : It → Hp → Prop} {E : Value → Shared → Prop} (I : Inv X pins σ H s) (k : ∀ b o, s.heap.get? b = some o → h'.get? b = some o) (rv : Vals xs us) (h0 : 0 ≤ r) (h1 : r ≤ 1000) (q : R (ItC xs r.toNat) H) :
    wpAny (model X.prog X.w) X.A (pyIter (.ref (h'.push { cls := .type "tuple", data := .seq us.toArray }).objs.size)) (PIE X pins σ tg R) E { s with heap := (h'.push { cls := .type "tuple", data := .seq us.toArray }).push (cbObj h'.objs.size (if r.toNat > us.length then 2 else 0) .none (List.range r.toNat)), toks := tk } := by
  have e2 : (h'.push { cls := .type "tuple", data := .seq us.toArray }).objs.size = h'.objs.size + 1 := Heap.size_push ..
  have g2 : ((h'.push { cls := .type "tuple", data := .seq us.toArray }).push (cbObj h'.objs.size (if r.toNat > us.length then 2 else 0) .none (List.range r.toNat))).get? (h'.push { cls := .type "tuple", data := .seq us.toArray }).objs.size = some (cbObj h'.objs.size (if r.toNat > us.length then 2 else 0) .none (List.range r.toNat)) := Heap.get?_push_size _ rfl
  have g1 : ((h'.push { cls := .type "tuple", data := .seq us.toArray }).push (cbObj h'.objs.size (if r.toNat > us.length then 2 else 0) .none (List.range r.toNat))).get? h'.objs.size = some (tupO us.toArray) := Heap.get?_push_of_some _ (Heap.get?_push_size _ rfl)
  refine iter_cb g2 ?_
  have I4 : Inv X pins σ H { s with heap := h', toks := tk } := I.kept k
  have I5 : Inv X pins σ H { s with heap := (h'.push { cls := .type "tuple", data := .seq us.toArray }).push (cbObj h'.objs.size (if r.toNat > us.length then 2 else 0) .none (List.range r.toNat)), toks := tk } :=
    I4.kept (t' := tk) fun b o e => Heap.get?_push_of_some _ (Heap.get?_push_of_some _ e)
  refine ⟨_, [_, h'.objs.size], _, _, H, rfl, I5, turn_cb (r := r.toNat) (by omega) rv (by rw [e2]; exact Nat.succ_ne_self _), ⟨_, _, _, g2, g1, .inl ⟨rfl, rfl, rfl⟩⟩, fun b hb => ?_, q⟩
  have hle : h'.objs.size ≤ b := by
    have e : b = (h'.push { cls := .type "tuple", data := .seq us.toArray }).objs.size ∨ b = h'.objs.size := by simpa using hb
    rcases e with rfl | rfl
    · rw [e2]; omega
    · exact Nat.le_refl _
  exact I4.fpOk hle (I4.hok.fresh hle)
section
variable {X : Cx} {tg a b m l : Expr} {ta tb tm tl : TE} {p p2 pos pos2 : Pos}
def iCb2 (ta tb tm : TE) : TI := fun σ H R => ta σ H fun x H1 => tb σ H1 fun y H2 => ∃ i j : Int, x = .int i ∧ y = .int j ∧ tm σ H2 fun z H3 => ∃ k : Int, z = .int k ∧ RgOk i j ∧ 0 ≤ k ∧ k ≤ 1000 ∧ R (ItC (rgV i j) k.toNat) H3
def iCb1 (tb tm : TE) : TI := fun σ H R => tb σ H fun y H2 => ∃ j : Int, y = .int j ∧ tm σ H2 fun z H3 => ∃ k : Int, z = .int k ∧ RgOk 0 j ∧ 0 ≤ k ∧ k ≤ 1000 ∧ R (ItC (rgV 0 j) k.toNat) H3
def iCbL (K : PySem.W.Frag) (tl tm : TE) : TI := fun σ H R => tl σ H fun x H1 => tm σ H1 fun z H3 => ∃ (q : Addr) (xs : List V) (k : Int), x = .ref q ∧ z = .int k ∧ (SqL K H3 q xs ∨ SqT K H3 q xs) ∧ 0 ≤ k ∧ k ≤ 1000 ∧ R (ItC xs k.toNat) H3
/-- behind the arguments: a range -/
theorem cb_rng {pins : List (Addr × Obj)} {s : Shared} {σ : L2.St} {H : Hp} {R : It → Hp → Prop} {i j k : Int} {t u v : Tok} {r : Addr} (hc : X.calm = true) (I : Inv X pins σ H s) (hr : IsRange s.heap r i j 1 t u v) (hm : X.A.handled = none) (ok : RgOk i j) (h0 : 0 ≤ k) (h1 : k ≤ 1000) (tk : Tok) (q : R (ItC (rgV i j) k.toNat) H) :
    wpAny (model X.prog X.w) X.A (call (.type "itertools.combinations") [.ref r, .int k tk]) (fun v s1 => wpAny (model X.prog X.w) X.A (pyIter v) (PIE X pins σ tg R) X.xe s1) X.xe s := by
  obtain ⟨b1, b2, b3, b4, b5⟩ := ok
  refine call_cb (P := fun us => Vals (rgV i j) us) h0 h1 (fun A' Q E' hA hq => ?_) (fun us rv => ?_) fun h' tk us hk rv => cb_it I hk rv h0 h1 q
  · exact collect_range (n := (j - i).toNat) (hA.trans hm) hr (small_one b1 b2 b3 b4) (rangeSize_nat i j) b5 fun h' tk acc hk hi => hq h' tk acc.toList hk (vals_rg hi)
  · rw [← rv.length, rgV_length, sizeLine_eq]; omega
theorem cb_end2 {pins : List (Addr × Obj)} {s : Shared} {σ : L2.St} {H : Hp} {R : It → Hp → Prop} {Q : V → Hp → Prop} {i j : Int} {t u v : Tok} {tk : Nat} (hc : X.calm = true) (I : Inv X pins σ H s) (hmm : PE X m tm) (n2 : starEach [m] X.env = (false, eval m X.env) :: starEach [] X.env) (q : tm σ H Q)
    (hq : ∀ z H3, Q z H3 → ∃ k : Int, z = .int k ∧ RgOk i j ∧ 0 ≤ k ∧ k ≤ 1000 ∧ R (ItC (rgV i j) k.toNat) H3) :
    wpAny (model X.prog X.w) X.A (spliced (backTo pos (starEach [m] X.env))) (fun vs s₂ => wpAny (model X.prog X.w) X.A (call (.type "itertools.combinations") (.ref s.heap.objs.size :: vs)) (fun v s1 => wpAny (model X.prog X.w) X.A (pyIter v) (PIE X pins σ tg R) X.xe s1) X.xe s₂) X.xe
      { s with heap := s.heap.push { cls := .type "range", data := .fields #[.int i t, .int j u, .int 1 v] }, toks := tk } := by
  have I2 : Inv X pins σ H { s with heap := s.heap.push { cls := .type "range", data := .fields #[.int i t, .int j u, .int 1 v] }, toks := tk } := I.kept fun b o e => Heap.get?_push_of_some _ e
  have g : (s.heap.push { cls := .type "range", data := .fields #[.int i t, .int j u, .int 1 v] }).get? s.heap.objs.size = some { cls := .type "range", data := .fields #[.int i t, .int j u, .int 1 v] } := Heap.get?_push_size _ rfl
  have fp : ∀ b ∈ [s.heap.objs.size], FpOk X pins H b := fun b hb => by
    have e : b = s.heap.objs.size := by simpa using hb
    subst e
    exact I.fpOk (Nat.le_refl _) (I.hok.fresh (Nat.le_refl _))
  have I3 := I2.pinned (fp := [s.heap.objs.size]) fp fun b hb => by
    have e : b = s.heap.objs.size := by simpa using hb
    subst e
    exact ⟨_, g, fun v z => by cases z⟩
  refine one_arg hmm I3 q (fun w s3 z H3 I4 r4 q4 => ?_) n2
  obtain ⟨k, rfl, ok, h0, h1, q4⟩ := hq z H3 q4
  obtain ⟨tk', rfl⟩ := r4
  have gp : s3.heap.get? s.heap.objs.size = some { cls := .type "range", data := .fields #[.int i t, .int j u, .int 1 v] } := (I4.pin (s.heap.objs.size, _) (List.mem_append_right _ (List.mem_append_right _ (mem_pinsAt (by simp) g)))).1
  have I5 := I4.unpinned
  exact cb_rng hc I5 (show IsRange s3.heap s.heap.objs.size i j 1 t u v from gp) (I5.ok.hd hc) ok h0 h1 tk' q4
theorem pi_cb2 {x : Str} (hc : X.calm = true) (hg : Gl X x) (hm : X.mg x = some (.type "itertools.combinations")) (hgr : Gl X "range") (hmr : X.mg "range" = none) (ha : PE X a ta) (hb : PE X b tb) (hmm : PE X m tm) (hdb : (x == ("__debug__" : Str)) = false)
    (n1 : starEach [.Call (.Name "range" p2) [a, b] [] pos2, m] X.env = (false, eval (.Call (.Name "range" p2) [a, b] [] pos2) X.env) :: starEach [m] X.env) (n2 : starEach [m] X.env = (false, eval m X.env) :: starEach [] X.env)
    (n3 : starEach [a, b] X.env = (false, eval a X.env) :: starEach [b] X.env) (n4 : starEach [b] X.env = (false, eval b X.env) :: starEach [] X.env) :
    PI X tg (.Call (.Name x p) [.Call (.Name "range" p2) [a, b] [] pos2, m] [] pos) (iCb2 ta tb tm) := by
  refine ⟨fun pins s σ H R I h => ?_⟩
  refine Call_ (ld_glob I hg hm (PyProof.Rows.callWith_type1 (args_cons ?_ n1) n1 (by rw [n2]; rfl)) hdb)
  refine Call_ (ld_blt I hgr hmr boot_range (PyProof.Rows.callWith_type1 (args_cons (thn (ha.run pins s σ H _ I h) fun v s1 ⟨x, H1, I1, r1, q1⟩ => one_arg hb I1 q1 (fun u s2 y H2 I2 r2 q => ?_) n4) n3) n3 (by rw [n4]; rfl)))
  obtain ⟨i, j, rfl, rfl, q⟩ := q
  obtain ⟨t, rfl⟩ := r1
  obtain ⟨t', rfl⟩ := r2
  refine call_range_2 ?_
  exact cb_end2 hc I2 hmm n2 q fun z H3 ⟨k, ez, ok, h0, h1, q⟩ => ⟨k, ez, ok, h0, h1, q⟩
theorem pi_cb1 {x : Str} (hc : X.calm = true) (hg : Gl X x) (hm : X.mg x = some (.type "itertools.combinations")) (hgr : Gl X "range") (hmr : X.mg "range" = none) (hb : PE X b tb) (hmm : PE X m tm) (hdb : (x == ("__debug__" : Str)) = false)
    (n1 : starEach [.Call (.Name "range" p2) [b] [] pos2, m] X.env = (false, eval (.Call (.Name "range" p2) [b] [] pos2) X.env) :: starEach [m] X.env) (n2 : starEach [m] X.env = (false, eval m X.env) :: starEach [] X.env)
    (n4 : starEach [b] X.env = (false, eval b X.env) :: starEach [] X.env) :
    PI X tg (.Call (.Name x p) [.Call (.Name "range" p2) [b] [] pos2, m] [] pos) (iCb1 tb tm) := by
  refine ⟨fun pins s σ H R I h => ?_⟩
  refine Call_ (ld_glob I hg hm (PyProof.Rows.callWith_type1 (args_cons ?_ n1) n1 (by rw [n2]; rfl)) hdb)
  refine Call_ (ld_blt I hgr hmr boot_range (PyProof.Rows.callWith_type1 (one_arg hb I h (fun u s2 y H2 I2 r2 q => ?_) n4) n4))
  obtain ⟨j, rfl, q⟩ := q
  obtain ⟨t', rfl⟩ := r2
  refine call_range_1 ?_
  exact cb_end2 hc I2 hmm n2 q fun z H3 ⟨k, ez, ok, h0, h1, q⟩ => ⟨k, ez, ok, h0, h1, q⟩
theorem pi_cbL {x : Str} (hc : X.calm = true) (hg : Gl X x) (hm : X.mg x = some (.type "itertools.combinations")) (hl : PE X l tl) (hmm : PE X m tm) (hdb : (x == ("__debug__" : Str)) = false)
    (n1 : starEach [l, m] X.env = (false, eval l X.env) :: starEach [m] X.env) (n2 : starEach [m] X.env = (false, eval m X.env) :: starEach [] X.env) :
    PI X tg (.Call (.Name x p) [l, m] [] pos) (iCbL X.K tl tm) := by
  refine ⟨fun pins s σ H R I h => ?_⟩
  refine Call_ (ld_glob I hg hm (PyProof.Rows.callWith_type1 (args_cons (thn (hl.run pins s σ H _ I h) fun v s1 ⟨x, H1, I1, r1, q1⟩ => one_arg hmm I1 q1 (fun u s2 z H3 I3 r3 q => ?_) n2) n1) n1 (by rw [n2]; rfl)) hdb)
  obtain ⟨q0, xs, k, rfl, rfl, hs, h0, h1, q⟩ := q
  obtain rfl : v = .ref q0 := r1
  obtain ⟨tk, rfl⟩ := r3
  rcases hs with hs | hs
  · obtain ⟨its, rv, pl, hz⟩ := I3.list hs
    obtain ⟨o, ho, hcl, cc, hd⟩ := (show s2.heap.IsList q0 its.toArray from pl.isList)
    refine call_cb (P := fun us => us = its) h0 h1 (fun A' Q E' hA hq => ?_) (fun us e => ?_) fun h' tk us hk e => ?_
    · exact wpAny_collect_seq q0 (.inl rfl) ho hcl hd (fun h' hk => by have := hq h' s2.toks its hk rfl; simpa using this) (by rw [List.size_toArray, ← rv.length]; exact hz)
    · subst e; rw [← rv.length]; exact hz
    · subst e; exact cb_it I3 hk rv h0 h1 q
  · obtain ⟨its, rv, pl, hz⟩ := I3.tuple hs
    obtain ⟨o, ho, hcl, cc, hd⟩ := (show s2.heap.IsTuple q0 its.toArray from pl)
    refine call_cb (P := fun us => us = its) h0 h1 (fun A' Q E' hA hq => ?_) (fun us e => ?_) fun h' tk us hk e => ?_
    · exact wpAny_collect_seq q0 (.inr rfl) ho hcl hd (fun h' hk => by have := hq h' s2.toks its hk rfl; simpa using this) (by rw [List.size_toArray, ← rv.length]; exact hz)
    · subst e; rw [← rv.length]; exact hz
    · subst e; exact cb_it I3 hk rv h0 h1 q
end
end Cb

/-! Ws1: plain values (trees), and how they lie in the abstract heap. -/
namespace Ws
open PySem PySem.Spec PyProof.Rows L2

/-- a plain value; own: a list that a local name holds alone; stm: the law's stream -/
inductive PV where
  | non | bl (b : Bool) | int (i : Int) | str (s : Str) | ty (n : String) | tup (l : List PV) | lst (l : List PV) | own (l : List PV) | stm
  deriving Inhabited

/-- the stream's state: the script, the cell, the place -/
abbrev Strm := Option (List Int × Int × Int)

mutual
/-- v is the tree x; lists lie at addresses of R alone -/
inductive Rep (K : PySem.W.Frag) (R : Addr → Prop) (a : Addr) (H : Hp) : V → PV → Prop where
  | non : Rep K R a H .non .non
  | bl (b : Bool) : Rep K R a H (.bl b) (.bl b)
  | int (i : Int) : Rep K R a H (.int i) (.int i)
  | str (s : Str) : Rep K R a H (.str s) (.str s)
  | ty (n : String) : Rep K R a H (.ty n) (.ty n)
  | tup {p : Addr} {vs : List V} {xs : List PV} : H p = some (.tup vs) → p ≠ a → Reps K R a H vs xs → Rep K R a H (.ref p) (.tup xs)
  | lst {p : Addr} {vs : List V} {xs : List PV} : H p = some (.lst vs) → p ≠ a → R p → Reps K R a H vs xs → Rep K R a H (.ref p) (.lst xs)
  | stm : Rep K R a H (.ref a) .stm
inductive Reps (K : PySem.W.Frag) (R : Addr → Prop) (a : Addr) (H : Hp) : List V → List PV → Prop where
  | nil : Reps K R a H [] []
  | cons {v : V} {x : PV} {vs : List V} {xs : List PV} : Rep K R a H v x → Reps K R a H vs xs → Reps K R a H (v :: vs) (x :: xs)
end

/-- all that is tracked but the stream stays; the stream keeps its script -/
def Keep (a : Addr) (H H' : Hp) : Prop := (∀ b o, H b = some o → b ≠ a → H' b = some o) ∧ (∀ b, H b ≠ none → H' b ≠ none) ∧ ∀ q r, H a = some (.lst (.ref q :: r)) → ∃ r', H' a = some (.lst (.ref q :: r'))
theorem Keep.refl {a : Addr} {H : Hp} : Keep a H H := ⟨fun _ _ h _ => h, fun _ h => h, fun _ r h => ⟨r, h⟩⟩
theorem Keep.trans {a : Addr} {H H1 H2 : Hp} (x : Keep a H H1) (y : Keep a H1 H2) : Keep a H H2 :=
  ⟨fun b o h n => y.1 b o (x.1 b o h n) n, fun b h => y.2.1 b (x.2.1 b h), fun q r h => let ⟨r', h'⟩ := x.2.2 q r h; y.2.2 q r' h'⟩
theorem Keep.upd {a p : Addr} {H : Hp} {o : HO} (h : H p = none) : Keep a H (upd H p o) := by
  refine ⟨fun b u e _ => ?_, fun b e => ?_, fun q r e => ⟨r, ?_⟩⟩
  · rw [upd_ne (ne_of_none e h)]; exact e
  · by_cases q : b = p
    · subst q; rw [upd_same]; exact fun z => by cases z
    · rw [upd_ne q]; exact e
  · rw [upd_ne (ne_of_none e h)]; exact e
theorem Keep.fresh {a b : Addr} {H H' : Hp} (k : Keep a H H') (h : H' b = none) : H b = none := by
  cases e : H b with
  | none => rfl
  | some o => exact absurd h (k.2.1 b (by rw [e]; exact fun z => by cases z))

theorem SqL.kp {K : PySem.W.Frag} {H H' : Hp} {p : Addr} {vs : List V} (h : SqL K H p vs) (k : ∀ o, H p = some o → H' p = some o) : SqL K H' p vs := by
  rcases h with (h | ⟨o, h⟩) | h
  · exact .inl (.inl (k _ h))
  · exact .inl (.inr ⟨o, k _ h⟩)
  · exact .inr h
theorem SqT.kp {K : PySem.W.Frag} {H H' : Hp} {p : Addr} {vs : List V} (h : SqT K H p vs) (k : ∀ o, H p = some o → H' p = some o) : SqT K H' p vs := by
  rcases h with (h | ⟨o, h⟩) | h
  · exact .inl (.inl (k _ h))
  · exact .inl (.inr ⟨o, k _ h⟩)
  · exact .inr h

section
variable {K : PySem.W.Frag} {R R' : Addr → Prop} {a : Addr} {H H' : Hp}
mutual
theorem Rep.mono (hR : ∀ b, R b → R' b) (k : Keep a H H') : ∀ {v : V} {x : PV}, Rep K R a H v x → Rep K R' a H' v x
  | _, _, .non => .non
  | _, _, .bl b => .bl b
  | _, _, .int i => .int i
  | _, _, .str s => .str s
  | _, _, .ty n => .ty n
  | _, _, .stm => .stm
  | _, _, .tup h n r => .tup (k.1 _ _ h n) n (Reps.mono hR k r)
  | _, _, .lst h n q r => .lst (k.1 _ _ h n) n (hR _ q) (Reps.mono hR k r)
theorem Reps.mono (hR : ∀ b, R b → R' b) (k : Keep a H H') : ∀ {vs : List V} {xs : List PV}, Reps K R a H vs xs → Reps K R' a H' vs xs
  | _, _, .nil => .nil
  | _, _, .cons r rs => .cons (Rep.mono hR k r) (Reps.mono hR k rs)
end
theorem Rep.keep (k : Keep a H H') {v : V} {x : PV} (r : Rep K R a H v x) : Rep K R a H' v x := r.mono (fun _ h => h) k
theorem Reps.keep (k : Keep a H H') {vs : List V} {xs : List PV} (r : Reps K R a H vs xs) : Reps K R a H' vs xs := r.mono (fun _ h => h) k

theorem Reps.length : ∀ {vs : List V} {xs : List PV}, Reps K R a H vs xs → vs.length = xs.length
  | _, _, .nil => rfl
  | _, _, .cons _ rs => by rw [List.length_cons, List.length_cons, Reps.length rs]
theorem Reps.get : ∀ {vs : List V} {xs : List PV} {i : Nat} {x : PV}, Reps K R a H vs xs → xs[i]? = some x → ∃ v, vs[i]? = some v ∧ Rep K R a H v x
  | _, _, _, _, .nil, e => by simp at e
  | _, _, 0, _, .cons r _, e => by simp at e; subst e; exact ⟨_, rfl, r⟩
  | _, _, i + 1, x, .cons _ t, e => by
    obtain ⟨u, h1, h2⟩ := Reps.get (i := i) (x := x) t (by simpa using e)
    exact ⟨u, by simpa using h1, h2⟩
theorem Reps.getV : ∀ {vs : List V} {xs : List PV} {i : Nat} {v : V}, Reps K R a H vs xs → vs[i]? = some v → ∃ x, xs[i]? = some x ∧ Rep K R a H v x
  | _, _, _, _, .nil, e => by simp at e
  | _, _, 0, _, .cons r _, e => by simp at e; subst e; exact ⟨_, rfl, r⟩
  | _, _, i + 1, x, .cons _ t, e => by
    obtain ⟨u, h1, h2⟩ := Reps.getV (i := i) t (by simpa using e)
    exact ⟨u, by simpa using h1, h2⟩
theorem Reps.append : ∀ {vs ws : List V} {xs ys : List PV}, Reps K R a H vs xs → Reps K R a H ws ys → Reps K R a H (vs ++ ws) (xs ++ ys)
  | _, _, _, _, .nil, s => s
  | _, _, _, _, .cons r t, s => .cons r (Reps.append t s)
theorem Reps.take : ∀ {vs : List V} {xs : List PV} (n : Nat), Reps K R a H vs xs → Reps K R a H (vs.take n) (xs.take n)
  | _, _, 0, _ => .nil
  | _, _, _ + 1, .nil => .nil
  | _, _, n + 1, .cons r t => .cons r (Reps.take n t)
theorem Reps.drop : ∀ {vs : List V} {xs : List PV} (n : Nat), Reps K R a H vs xs → Reps K R a H (vs.drop n) (xs.drop n)
  | _, _, 0, r => r
  | _, _, _ + 1, .nil => .nil
  | _, _, n + 1, .cons _ t => Reps.drop n t
theorem Reps.set : ∀ {vs : List V} {xs : List PV} {v : V} {x : PV} (n : Nat), Rep K R a H v x → Reps K R a H vs xs → Reps K R a H (vs.set n v) (xs.set n x)
  | _, _, _, _, _, _, .nil => .nil
  | _, _, _, _, 0, r, .cons _ t => .cons r t
  | _, _, _, _, n + 1, r, .cons q t => .cons q (Reps.set n r t)
theorem Reps.reverse {vs : List V} {xs : List PV} (r : Reps K R a H vs xs) : Reps K R a H vs.reverse xs.reverse := by
  induction vs generalizing xs with
  | nil => cases r; exact .nil
  | cons v vs ih =>
    cases r with
    | cons r rs => rw [List.reverse_cons, List.reverse_cons]; exact (ih rs).append (.cons r .nil)
theorem Reps.rep {vs : List V} {xs : List PV} (r : Reps K R a H vs xs) : ∀ k : Nat, Reps K R a H (List.replicate k vs).flatten (List.replicate k xs).flatten
  | 0 => .nil
  | k + 1 => by rw [List.replicate_succ, List.replicate_succ, List.flatten_cons, List.flatten_cons]; exact r.append (Reps.rep r k)
/-- ints -/
theorem Reps.ints : ∀ {vs : List V} {ns : List Int}, Reps K R a H vs (ns.map PV.int) → vs = ns.map V.int
  | _, [], .nil => rfl
  | _, n :: ns, .cons r t => by
    have e := Reps.ints (ns := ns) t
    cases r
    rw [e]; rfl
theorem Reps.ofInts : ∀ (ns : List Int), Reps K R a H (ns.map V.int) (ns.map PV.int)
  | [] => .nil
  | n :: ns => .cons (.int n) (Reps.ofInts ns)
theorem Reps.bls : ∀ {vs : List V} {ns : List Bool}, Reps K R a H vs (ns.map PV.bl) → vs = ns.map V.bl
  | _, [], .nil => rfl
  | _, n :: ns, .cons r t => by
    have e := Reps.bls (ns := ns) t
    cases r
    rw [e]; rfl
end

/- without lists (and streams): R is not asked -/
mutual
def PV.flat : PV → Bool
  | .tup l => PV.flats l
  | .lst _ => false
  | .own _ => false
  | .stm => false
  | _ => true
def PV.flats : List PV → Bool
  | [] => true
  | x :: xs => PV.flat x && PV.flats xs
end
section
variable {K : PySem.W.Frag} {R R' : Addr → Prop} {a : Addr} {H : Hp}
mutual
theorem Rep.flat : ∀ {v : V} {x : PV}, Rep K R a H v x → PV.flat x = true → Rep K R' a H v x
  | _, _, .non, _ => .non
  | _, _, .bl b, _ => .bl b
  | _, _, .int i, _ => .int i
  | _, _, .str s, _ => .str s
  | _, _, .ty n, _ => .ty n
  | _, _, .stm, _ => .stm
  | _, _, .tup h n r, e => .tup h n (Reps.flat r (by simpa [PV.flat] using e))
  | _, _, .lst h n q r, e => by simp [PV.flat] at e
theorem Reps.flat : ∀ {vs : List V} {xs : List PV}, Reps K R a H vs xs → PV.flats xs = true → Reps K R' a H vs xs
  | _, _, .nil, _ => .nil
  | _, _, .cons r rs, e => by
    simp only [PV.flats, Bool.and_eq_true] at e
    exact .cons (Rep.flat r e.1) (Reps.flat rs e.2)
end
end

/-- a value, or the content of an owned list -/
def RepE (K : PySem.W.Frag) (R : Addr → Prop) (a : Addr) (H : Hp) (v : V) : PV → Prop
  | .own xs => ∃ l vs, v = .ref l ∧ H l = some (.lst vs) ∧ l ≠ a ∧ Reps K R a H vs xs
  | x => Rep K R a H v x
theorem RepE.keep {K : PySem.W.Frag} {R : Addr → Prop} {a : Addr} {H H' : Hp} (k : Keep a H H') {v : V} {x : PV} (r : RepE K R a H v x) : RepE K R a H' v x := by
  cases x with
  | own xs => obtain ⟨l, vs, e, h, n, q⟩ := r; exact ⟨l, vs, e, k.1 _ _ h n, n, q.keep k⟩
  | _ => exact Rep.keep k r
def PV.isOwn : PV → Bool
  | .own _ => true
  | _ => false
theorem RepE.rep {K : PySem.W.Frag} {R : Addr → Prop} {a : Addr} {H : Hp} {v : V} {x : PV} (r : RepE K R a H v x) (h : x.isOwn = false) : Rep K R a H v x := by
  cases x with
  | own xs => simp [PV.isOwn] at h
  | _ => exact r
theorem Rep.noOwn {K : PySem.W.Frag} {R : Addr → Prop} {a : Addr} {H : Hp} {v : V} {x : PV} (r : Rep K R a H v x) : x.isOwn = false := by cases r <;> rfl
theorem Rep.toE {K : PySem.W.Frag} {R : Addr → Prop} {a : Addr} {H : Hp} {v : V} {x : PV} (r : Rep K R a H v x) : RepE K R a H v x := by
  cases x with
  | own xs => cases r
  | _ => exact r

/-- the names' values -/
abbrev Env := List (Option PV)
structure EnvE (K : PySem.W.Frag) (R : Addr → Prop) (a : Addr) (H : Hp) (σ : L2.St) (env : Env) : Prop where
  len : σ.length = env.length
  get : ∀ (i : Nat) (x : PV), env[i]? = some (some x) → ∃ v, σ[i]? = some (some v) ∧ RepE K R a H v x
theorem EnvE.keep {K : PySem.W.Frag} {R : Addr → Prop} {a : Addr} {H H' : Hp} {σ : L2.St} {env : Env} (k : Keep a H H') (e : EnvE K R a H σ env) : EnvE K R a H' σ env := ⟨e.len, fun i x h =>
  let ⟨v, h1, h2⟩ := e.get i x h
  ⟨v, h1, h2.keep k⟩⟩
theorem EnvE.set {K : PySem.W.Frag} {R : Addr → Prop} {a : Addr} {H : Hp} {σ : L2.St} {env : Env} (e : EnvE K R a H σ env) {v : V} {x : PV} (r : RepE K R a H v x) (i : Nat) : EnvE K R a H (σ.set i (some v)) (env.set i (some x)) := by
  refine ⟨by rw [List.length_set, List.length_set]; exact e.len, fun j y h => ?_⟩
  by_cases hj : i = j
  · subst hj
    by_cases hi : i < env.length
    · rw [List.getElem?_set_self hi] at h
      cases h
      exact ⟨v, List.getElem?_set_self (by rw [e.len]; exact hi), r⟩
    · rw [List.getElem?_eq_none (by simpa using hi)] at h
      cases h
  · rw [List.getElem?_set_ne hj] at h ⊢
    exact e.get j y h

def SRel (K : PySem.W.Frag) (R : Addr → Prop) (a : Addr) (H : Hp) : Strm → Prop
  | none => True
  | some (scr, c, k) => ∃ q, H a = some (.lst [.ref q, .int c, .int k]) ∧ H q = some (.lst (scr.map V.int)) ∧ q ≠ a ∧ R q
theorem SRel.upd {K : PySem.W.Frag} {R : Addr → Prop} {a p : Addr} {H : Hp} {o : HO} {S : Strm} (h : H p = none) (s : SRel K R a H S) : SRel K R a (upd H p o) S := by
  cases S with
  | none => trivial
  | some t =>
    obtain ⟨scr, c, k⟩ := t
    obtain ⟨q, h1, h2, h3, h4⟩ := s
    exact ⟨q, by rw [upd_ne (ne_of_none h1 h)]; exact h1, by rw [upd_ne (ne_of_none h2 h)]; exact h2, h3, h4⟩
theorem SRel.mono {K : PySem.W.Frag} {R R' : Addr → Prop} {a : Addr} {H : Hp} {S : Strm} (hR : ∀ b, R b → R' b) (s : SRel K R a H S) : SRel K R' a H S := by
  cases S with
  | none => trivial
  | some t =>
    obtain ⟨scr, c, k⟩ := t
    obtain ⟨q, h1, h2, h3, h4⟩ := s
    exact ⟨q, h1, h2, h3, hR _ h4⟩

/-- fresh addresses are of R; the stream's is not -/
structure Fresh (R : Addr → Prop) (a : Addr) (H : Hp) : Prop where
  fc : ∀ b, H b = none → R b
  na : ¬ R a
theorem Fresh.keep {R : Addr → Prop} {a : Addr} {H H' : Hp} (f : Fresh R a H) (k : Keep a H H') : Fresh R a H' := ⟨fun b h => f.fc b (k.fresh h), f.na⟩
theorem Fresh.ne {R : Addr → Prop} {a p : Addr} {H : Hp} (f : Fresh R a H) (h : H p = none) : p ≠ a := fun e => f.na (e ▸ f.fc p h)
theorem Fresh.any {R : Addr → Prop} {a : Addr} {H : Hp} (f : Fresh R a H) : Fresh (fun b => b ≠ a) a H := ⟨fun b h => f.ne h, fun h => h rfl⟩
theorem Fresh.le {R : Addr → Prop} {a : Addr} {H : Hp} (f : Fresh R a H) : ∀ b, R b → b ≠ a := fun b h e => f.na (e ▸ h)
/-- the script's place is known behind -/
theorem SRel.back {K : PySem.W.Frag} {R R' : Addr → Prop} {a : Addr} {H H' : Hp} {S S' : Strm} (s : SRel K R a H S) (k : Keep a H H') (s' : SRel K R' a H' S') (h : (S.isSome || S'.isNone) = true) : SRel K R a H' S' := by
  cases S' with
  | none => trivial
  | some t' =>
    cases S with
    | none => simp at h
    | some t =>
      obtain ⟨scr, c, k1⟩ := t
      obtain ⟨scr', c', k1'⟩ := t'
      obtain ⟨q, h1, h2, h3, h4⟩ := s
      obtain ⟨q', h1', h2', h3', h4'⟩ := s'
      obtain ⟨r', e⟩ := k.2.2 _ _ h1
      rw [h1'] at e
      have e2 : q' = q := by
        injection e with e
        injection e with e
        injection e with e _
        injection e
      subst e2
      exact ⟨q', h1', h2', h3', h4⟩
end Ws

/-! WsC: tuples can be sorted among which an empty one is. -/
namespace Ws
open PySem PySem.Spec PyProof.Rows PySem.W PySem.Calls PySem.SeqAt

theorem each_right {α β : Type} {R : α → β → Prop} : ∀ {as : List α} {bs : List β}, EachIs R as bs → ∀ b, b ∈ bs → ∃ a, a ∈ as ∧ R a b
  | _, _, .nil, b, h => absurd h (by simp)
  | _, _, .cons (a := a) h t, b, hb => by
    rcases List.mem_cons.mp hb with rfl | hb
    · exact ⟨_, List.mem_cons_self .., h⟩
    · obtain ⟨a', h1, h2⟩ := each_right t b hb
      exact ⟨a', List.mem_cons_of_mem _ h1, h2⟩
/-- as the kit's, or all are tuples -/
def SortT (ds : List PyData) : Prop := PySem.W.Sortable ds ∨ ∀ d, d ∈ ds → ∃ xs, d = .tuple xs
section
variable {prog : Program} {w : World} {A : Around} {s : Shared}
theorem call_tuple_lt {E : Value → Shared → Prop} {Q : Value → Shared → Prop} {l b : Addr} {items items2 : Array Value} {e r : Nat → Bool} (hl : s.heap.IsTuple l items) (hb : s.heap.IsTuple b items2)
    (he : ∀ j (h1 : j < items.size) (h2 : j < items2.size), EqAt A.in1 s items[j] items2[j] (e j)) (hr : ∀ j (h1 : j < items.size) (h2 : j < items2.size), e j = false → RcLt A.in1 s items[j] items2[j] (r j))
    (h : Q (.bool (firstLt e r (decide (items.size < items2.size)) (List.range (min items.size items2.size)))) s) : wpAny (model prog w) A (call (.builtin "tuple.__lt__") [.ref l, .ref b]) Q E s := by
  obtain ⟨⟨cls, dd, data, sl⟩, ho, hc, n, hd⟩ := id hl
  obtain ⟨⟨cls2, dd2, data2, sl2⟩, ho2, hc2, n2, hd2⟩ := id hb
  simp only at hc hd hc2 hd2
  subst hc hd hc2 hd2
  exact call_meets F.slot_tuple_lt ⟨_, ho, rfl⟩ F.entry_tuple_lt (F.args_tuple_lt_2 _ _) (tuple_ltAt l b items items2 n n2 dd dd2 sl sl2 e r) ⟨ho, ho2, he, hr, h⟩
/-- a tuple against another, as sorting asks tuple's own __lt__ -/
theorem oneLt_tuple {E : Value → Shared → Prop} {xs ys : List PyData} {a b : Value} {as bs : List Addr} {Q : Bool → Shared → Prop} (ra : Reads s.heap a (.tuple xs) as) (rb : Reads s.heap b (.tuple ys) bs) (hal : PySem.W.alikeAll xs ys = true)
    (hu : A.units + min (PyData.tuple xs).depth (PyData.tuple ys).depth < cLine) (hq : Q (PySem.W.dataLt (.tuple xs) (.tuple ys)) s) : wpAny (model prog w) A (oneLt' true a b) Q E s := by
  cases ra with
  | @tuple l o vs n _ as₁ h1 h2 h3 h4 =>
    cases rb with
    | @tuple l' o' vs' n' _ bs₁ k1 k2 k3 k4 =>
      have n1 : vs.size = xs.length := by simpa using ReadsAll.length _ _ _ h4
      have n2 : vs'.size = ys.length := by simpa using ReadsAll.length _ _ _ k4
      rw [dataLt_tuple, ← firstLt_toks xs ys hal, ← n1, ← n2] at hq
      rw [oneLt'_eq]
      simp only [if_true]
      refine wpAny_bind (wpAny_cRoomFor (room_here hu) ?_)
      refine wpAny_bind (wpAny_callSpecialIfBound?_slot (T := "tuple") ⟨_, h1, h2⟩ F.slot_tuple_lt (call_tuple_lt (e := pairEq xs ys) (r := fun j => PySem.W.dataLt (xs.getD j .none) (ys.getD j .none)) ⟨_, h1, h2, _, h3⟩ ⟨_, k1, k2, _, k3⟩ (fun j j1 j2 => ?_) (fun j j1 j2 hj => ?_) ?_))
      · have := eqAt_alikeAll xs ys A.in1 s vs.toList vs'.toList _ _ h4 k4 hal (room_in hu) j (by simpa using j1) (by simpa using j2)
        simpa using this
      · have := rcLt_alikeAll xs ys A.in1 s vs.toList vs'.toList _ _ h4 k4 hal (room_in hu) j (by simpa using j1) (by simpa using j2) hj
        simpa using this
      · exact wpAny_truthy_bool hq
/-- what the firsts of tuples are -/
theorem mapM_firsts {M : Model} {E : Value → Shared → Prop} : ∀ (vs : List Value) (ds : List PyData) {Q : List (Option Value) → Shared → Prop}, EachIs (fun v d => ∃ as, Reads s.heap v d as) vs ds → (∀ d, d ∈ ds → ∃ xs, d = .tuple xs) →
    (∀ fs : List (Option Value), EachIs (fun f d => f.isSome = true ↔ ∃ x r, d = PyData.tuple (x :: r)) fs ds → Q fs s) → wpAny M A (vs.mapM firstOfTuple') Q E s
  | [], [], _, _, _, h => by rw [List.mapM_nil]; exact wpAny_pure (h [] .nil)
  | [], _ :: _, _, e, _, _ => by cases e
  | _ :: _, [], _, e, _, _ => by cases e
  | v :: vs, d :: ds, Q, .cons ⟨as, r⟩ t, ht, h => by
    obtain ⟨xs, rfl⟩ := ht d (List.mem_cons_self ..)
    cases r with
    | @tuple l o items n _ as₁ h1 h2 h3 h4 =>
      have n1 : items.size = xs.length := by simpa using ReadsAll.length _ _ _ h4
      rw [List.mapM_cons]
      refine wpAny_bind ?_
      rw [kas_first_eq]
      refine wpAny_bind (Looks.here (show Looks M s.heap (typeOf (.ref l)) o.cls from (Looks.ld h1).andThen .now) ?_)
      rw [h2, if_neg (by first | decide | simp)]
      refine wpAny_bind (listItems_at h1 h3 (wpAny_pure ?_))
      refine wpAny_bind (mapM_firsts vs ds (Q := fun bs s' => wpAny M A (pure (items[0]? :: bs)) Q E s') t (fun d hd => ht d (List.mem_cons_of_mem _ hd)) fun fs hf => wpAny_pure (h _ (.cons ?_ hf)))
      constructor
      · intro q
        cases xs with
        | nil =>
          have : items.size = 0 := n1
          rw [Array.getElem?_eq_none (by omega)] at q
          exact absurd q (by simp)
        | cons x r => exact ⟨x, r, rfl⟩
      · rintro ⟨x, r, e⟩
        injection e with e
        have : 0 < items.size := by rw [n1, e]; exact Nat.succ_pos _
        rw [Array.getElem?_eq_getElem this]
        rfl
theorem mapM_types {M : Model} {E : Value → Shared → Prop} : ∀ (vs : List Value) (ds : List PyData) {Q : List Value → Shared → Prop}, EachIs (fun v d => ∃ as, Reads s.heap v d as) vs ds → (∀ d, d ∈ ds → ∃ xs, d = .tuple xs) →
    Q (vs.map fun _ => Value.type "tuple") s → wpAny M A (vs.mapM typeOf) Q E s := by
  intro vs ds Q e ht h
  refine kas_mapM (r := Value.type "tuple") vs (fun v hv Q' hq => ?_) h
  obtain ⟨d, hd, as, r⟩ := e.left v hv
  obtain ⟨xs, rfl⟩ := ht d hd
  exact (looks_reads r).here hq
/-- tuples, an empty one among them: the kind is the general one or that of one type -/
theorem kind_mixed {M : Model} {E : Value → Shared → Prop} {vs : List Value} {ds : List PyData} {Q : SortKind → Shared → Prop} (e : EachIs (fun v d => ∃ as, Reads s.heap v d as) vs ds) (ht : ∀ d, d ∈ ds → ∃ xs, d = .tuple xs) (hx : PyData.tuple [] ∈ ds)
    (h : Q (match ds.head? with | some (.tuple (_ :: _)) => general' | _ => oneType') s) : wpAny M A (keyKind' vs.toArray) Q E s := by
  rw [keyKind'_eq, List.mapM_toArray, map_eq_pure_bind]
  refine wpAny_bind (wpAny_bind (mapM_firsts vs ds e ht fun fs hf => wpAny_pure ?_))
  have hno : ¬ (fs.toArray.all (·.isSome)) = true := by
    rw [List.all_toArray, List.all_eq_true]
    intro q
    obtain ⟨f, hf1, hf2⟩ := each_right hf _ hx
    obtain ⟨x, r, e⟩ := hf2.mp (q f hf1)
    exact absurd e (by simp)
  rw [if_neg hno]
  cases ds with
  | nil => exact absurd hx (by simp)
  | cons d ds =>
    cases fs with
    | nil => cases hf
    | cons f fs =>
      have hfd : f.isSome = true ↔ ∃ x r, d = PyData.tuple (x :: r) := by cases hf with | cons q _ => exact q
      have h0 : ((f :: fs).toArray[0]?.bind id) = f := by simp
      rw [h0]
      obtain ⟨xs, rfl⟩ := ht d (List.mem_cons_self ..)
      cases xs with
      | cons x r =>
        rw [if_pos (hfd.mpr ⟨x, r, rfl⟩)]
        exact wpAny_pure h
      | nil =>
        rw [if_neg (fun q => by obtain ⟨x, r, e⟩ := hfd.mp q; exact absurd e (by simp))]
        rw [oneTypeOnly'_eq, List.mapM_toArray, map_eq_pure_bind]
        refine wpAny_bind (wpAny_bind (wpAny_bind (mapM_types vs _ e ht (wpAny_pure ?_))))
        cases vs with
        | nil => cases e
        | cons v vs =>
          have hall : ((List.map (fun _ => Value.type "tuple") (v :: vs)).toArray.all fun x => x == Value.type "tuple") = true := by
            simp only [List.all_toArray, List.all_map, List.all_eq_true]
            intro _ _
            rfl
          have h1 : (List.map (fun _ => Value.type "tuple") (v :: vs)).toArray[0]? = some (Value.type "tuple") := by simp
          rw [h1]
          simp only [hall, if_true]
          exact wpAny_pure (wpAny_pure h)
/-- tuples can be sorted -/
theorem sorts_tuples {vs : List Value} {ds : List PyData} (e : EachIs (fun v d => ∃ as, Reads s.heap v d as) vs ds) (hal : AllAlike ds) (ht : ∀ d, d ∈ ds → ∃ xs, d = .tuple xs) (hu : ∀ d, d ∈ ds → A.units + d.depth < cLine) : SortsAt prog w A s (dataKind s.heap ds) vs := by
  by_cases hx : PyData.tuple [] ∈ ds
  · have room : ∀ {d d' : PyData}, d ∈ ds → A.units + min d.depth d'.depth < cLine := fun {d d'} hd => Nat.lt_of_le_of_lt (Nat.add_le_add_left (Nat.min_le_left _ _) _) (hu d hd)
    refine ⟨fun v hv => ?_, ?_⟩
    · obtain ⟨d, hd, as, r⟩ := e.left v hv
      exact ⟨_, dataKind_some hal hd r⟩
    · refine ⟨match ds.head? with | some (.tuple (_ :: _)) => general' | _ => oneType', ?_, fun _ E Q hq => kind_mixed e ht hx hq⟩
      intro E x y a b Q ha hb hq
      obtain ⟨d, as, hd, ra, rfl⟩ := dataKind_inv ha
      obtain ⟨d', as', hd', rb, rfl⟩ := dataKind_inv hb
      have hdd := hal d hd d' hd'
      have g1 : wpAny (model prog w) A (keyLt' general' x y) Q E s := oneLt_alike (f := false) (fun q => absurd q (by simp)) ra rb hdd (fun q => by obtain ⟨xs, e⟩ := ht d hd; rw [q] at e; exact absurd e (by simp)) (room hd) hq
      have g2 : wpAny (model prog w) A (keyLt' oneType' x y) Q E s := by
        rw [keyLt'_oneType]
        obtain ⟨xs, rfl⟩ := ht d hd
        obtain ⟨ys, rfl⟩ := ht d' hd'
        exact oneLt_tuple ra rb (by simpa [PySem.W.alike] using hdd) (room hd) hq
      split
      · exact g1
      · exact g2
  · exact SortsAt.data e hal (.inl fun d hd => by
      obtain ⟨xs, rfl⟩ := ht d hd
      cases xs with
      | nil => exact absurd hd hx
      | cons x r => exact ⟨x, r, rfl⟩) hu
theorem sorts_T {vs : List Value} {ds : List PyData} (e : EachIs (fun v d => ∃ as, Reads s.heap v d as) vs ds) (hal : AllAlike ds) (hk : SortT ds) (hu : ∀ d, d ∈ ds → A.units + d.depth < cLine) : SortsAt prog w A s (dataKind s.heap ds) vs :=
  hk.elim (fun q => SortsAt.data e hal q hu) fun q => sorts_tuples e hal q hu
end
section
variable {prog : Program} {w : World} {A : Around} {E : Value → Shared → Prop} {s : Shared} {β : Type} {vs : List Value} {bs : List β} {enc : β → PyData} {R : Value → β → Prop}
/-- xs.sort() -/
theorem list_sort_T {a : Addr} {n : Nat} {Q : Value → Shared → Prop} (ho : s.heap.get? a = some (seqObj "list" vs.toArray n)) (e : EachIs R vs bs) (er : EachIs (fun v b => ∃ as, Reads s.heap v (enc b) as ∧ a ∉ as) vs bs) (hal : AllAlike (bs.map enc)) (hk : SortT (bs.map enc)) (hL : bs.length ≤ sizeLine)
    (hu : ∀ b, b ∈ bs → A.units + 1 + (enc b).depth < cLine) (h : ∀ out, out.length = bs.length → EachIs R out (bs.mergeSort (dataLe false enc)) → Q .none { s with heap := sortedHeap s.heap a vs (List.toArray out) }) :
    wpAny (model prog w) A (call (.builtin "list.sort") [.ref a]) Q E s := by
  have er' : EachIs (fun v b => ∃ as, Reads (sortingHeap s.heap a vs) v (enc b) as) vs bs := each_keepBut (h' := sortingHeap s.heap a vs) (fun _ _ hb q => sortingHeap_old hb q) (fun o q => by rw [ho] at q; rw [← Option.some.inj q]) hal er
  refine wpAny_call_entry slot_list_sort ⟨_, ho, rfl⟩ entry_list_sort (list_sort_vals (κ := dataKind (sortingHeap s.heap a vs) (bs.map enc)) ho (sorts_T (s := { s with heap := sortingHeap s.heap a vs }) (each_map (R := fun v d => ∃ as, Reads (sortingHeap s.heap a vs) v d as) enc er') hal hk (bound_map hu)) (by rw [e.length]; exact hL) ⟨.none, rfl, ?_⟩) (args_list_sort _)
  exact h _ (by rw [sortVals_length false rfl]; exact e.length) (sortVals_data false e er' hal)
end
end Ws

/-! WsA: sorted(xs), lists and tuples of alike data; an insertion that sorts as well. -/
namespace Ws
open PySem PySem.Spec PyProof.Rows L2 PySem.W PySem.Calls

/-! ### insertion -/
section
variable {α : Type} (le : α → α → Bool)
def ins (x : α) : List α → List α
  | [] => [x]
  | y :: ys => if le x y then x :: y :: ys else y :: ins x ys
def isort : List α → List α
  | [] => []
  | x :: xs => ins le x (isort xs)
variable {le}
theorem ins_mem {x z : α} : ∀ {ys : List α}, z ∈ ins le x ys ↔ z = x ∨ z ∈ ys
  | [] => by simp [ins]
  | y :: ys => by
    rw [ins]
    split
    · simp
    · rw [List.mem_cons, ins_mem (ys := ys), List.mem_cons]
      constructor
      · rintro (h | h | h)
        · exact .inr (.inl h)
        · exact .inl h
        · exact .inr (.inr h)
      · rintro (h | h | h)
        · exact .inr (.inl h)
        · exact .inl h
        · exact .inr (.inr h)
theorem ins_sorted (h : TotalLe le) {x : α} : ∀ {ys : List α}, ys.Pairwise (fun a b => le a b = true) → (ins le x ys).Pairwise (fun a b => le a b = true)
  | [], _ => by simp [ins]
  | y :: ys, hp => by
    rw [ins]
    have hp' := List.pairwise_cons.mp hp
    split
    · rename_i e
      refine List.pairwise_cons.mpr ⟨fun z hz => ?_, hp⟩
      rcases List.mem_cons.mp hz with q | q
      · rw [q]; exact e
      · exact h.trans _ _ _ e (hp'.1 z q)
    · rename_i e
      refine List.pairwise_cons.mpr ⟨fun z hz => ?_, ins_sorted h hp'.2⟩
      rcases ins_mem.mp hz with q | q
      · rw [q]; exact (h.total y x).resolve_right e
      · exact hp'.1 z q
theorem ins_filter (h : TotalLe le) (c : α) {x : α} : ∀ {ys : List α}, (ins le x ys).filter (sameRank le c) = (x :: ys).filter (sameRank le c)
  | [] => rfl
  | y :: ys => by
    rw [ins]
    split
    · rfl
    · rename_i e
      have ih := ins_filter h c (x := x) (ys := ys)
      cases hx : sameRank le c x with
      | false =>
        rw [List.filter_cons_of_neg (by rw [hx]; exact Bool.false_ne_true)] at ih
        rw [List.filter_cons_of_neg (a := x) (by rw [hx]; exact Bool.false_ne_true), List.filter_cons, List.filter_cons, ih]
      | true =>
        have hy : sameRank le c y = false := by
          cases hy : sameRank le c y with
          | false => rfl
          | true =>
            simp only [sameRank, Bool.and_eq_true] at hx hy
            exact absurd (h.trans _ _ _ hx.2 hy.1) e
        have hy' : ¬ sameRank le c y = true := by rw [hy]; exact Bool.false_ne_true
        rw [List.filter_cons_of_pos hx] at ih ⊢
        rw [List.filter_cons_of_neg hy', List.filter_cons_of_neg hy', ih]
theorem isort_sorted (h : TotalLe le) : ∀ l : List α, (isort le l).Pairwise (fun a b => le a b = true)
  | [] => List.Pairwise.nil
  | x :: xs => ins_sorted h (isort_sorted h xs)
theorem isort_filter (h : TotalLe le) (c : α) : ∀ l : List α, (isort le l).filter (sameRank le c) = l.filter (sameRank le c)
  | [] => rfl
  | x :: xs => by
    rw [isort, ins_filter h c, List.filter_cons, List.filter_cons, isort_filter h c xs]
theorem isort_eq (h : TotalLe le) (l : List α) : isort le l = l.mergeSort le := sort_unique h (isort_sorted h l) fun c => isort_filter h c l
theorem isort_mem {z : α} : ∀ {l : List α}, z ∈ isort le l ↔ z ∈ l
  | [] => by simp [isort]
  | x :: xs => by rw [isort, ins_mem, isort_mem, List.mem_cons]
theorem isort_length : ∀ {l : List α}, (isort le l).length = l.length
  | [] => rfl
  | x :: xs => by
    have q : ∀ ys : List α, (ins le x ys).length = ys.length + 1 := by
      intro ys
      induction ys with
      | nil => rfl
      | cons y ys ih => rw [ins]; split <;> simp [ih]
    rw [isort, q, isort_length, List.length_cons]
end

/-! ### the items of a list or a tuple, gathered -/
section
variable {prog : Program} {w : World} {A : Around} {E : Value → Shared → Prop} {s : Shared}
theorem gather {p : Addr} {ty : String} {ob : Obj} {its : Array Value} {ep : Nat} {Q : List Value → Shared → Prop} (hT : ty = "list" ∨ ty = "tuple") (h1 : s.heap.get? p = some ob) (h2 : ob.cls = .type ty) (h3 : ob.data = .seq its ep) (hz : its.size ≤ sizeLine)
    (k : ∀ g : Heap, s.heap.objs.size ≤ g.objs.size → (∀ b o, s.heap.get? b = some o → g.get? b = some o) → Q its.toList { s with heap := g }) : wpAny (model prog w) A (collect (.ref p)) Q E s := by
  have new : (s.heap.push (seqObj "list" #[] 0)).get? s.heap.objs.size = some (seqObj "list" #[] 0) := Heap.get?_push_size _ rfl
  let g : Heap := (s.heap.push (seqObj "list" #[] 0)).update s.heap.objs.size (Obj.mapSeq (· ++ its))
  have fin : Q its.toList { s with heap := g } := by
    refine k g (by show _ ≤ g.objs.size; rw [Heap.size_update, size_push']; omega) fun b o q => ?_
    exact (Heap.get?_update_other _ _ (Nat.ne_of_gt (Heap.lt_size q))).trans (Heap.get?_push_of_some _ q)
  have last : wpAny (model prog w) A (load s.heap.objs.size >>= fun o => match o.data with | .seq xs _ => pure xs.toList | _ => unsupported "internal:collect") Q E { s with heap := g } :=
    wpAny_bind (wpAny_load (get?_update_seq new _) (by show wpAny _ _ (pure ((#[] : Array Value) ++ its).toList) Q E _; rw [Array.empty_append]; exact wpAny_pure fin))
  unfold collect
  refine wpAny_bind (wpAny_runValue (codeAny_builtin entry_proto_collect' ?_)); rw [Around.under_plainId F.plain_proto_collect _]
  refine wpAny_bind (wpAny_newList (wpAny_pure ⟨Code.quiet_builtin _ (by decide +kernel), codeAny_builtin entry_list_iadd' ?_⟩) (Nat.zero_le _)); rw [Around.under_plainId F.plain_list_iadd _]
  refine wpAny_mono (wpAny_extend_seq (A := A) (s := { s with heap := s.heap.push (seqObj "list" #[] 0) }) (R := fun r t => r = .ok (.ret (.ref s.heap.objs.size)) ∧ t = { s with heap := g }) s.heap.objs.size p (.ref s.heap.objs.size) 0 hT new (Heap.get?_push_of_some _ h1) h2 h3 ⟨rfl, rfl⟩ hz) (fun r t h => ?_) fun r t h => absurd (And.left h) (by simp)
  cases r with
  | done r =>
    obtain ⟨e1, e2⟩ := h
    cases e1; subst e2
    exact last
  | again c => exact ⟨h.1, codeAny_mono h.2 fun r t hr => by obtain ⟨rfl, rfl⟩ := hr; exact last⟩
end

/-! ### sorted of a list or a tuple: the items are gathered, then the new list is sorted in its place -/
section
variable {prog : Program} {w : World} {A : Around} {E : Value → Shared → Prop} {s : Shared} {β : Type} {vs : List Value} {bs : List β} {enc : β → PyData} {R : Value → β → Prop}
theorem sorted_sq {l : Addr} {ty : String} {ob : Obj} {ep : Nat} {Q : Value → Shared → Prop} (hT : ty = "list" ∨ ty = "tuple") (h1 : s.heap.get? l = some ob) (h2 : ob.cls = .type ty) (h3 : ob.data = .seq vs.toArray ep)
    (e : EachIs R vs bs) (er : EachIs (fun v b => ∃ as, Reads s.heap v (enc b) as) vs bs) (hal : AllAlike (bs.map enc)) (hk : SortT (bs.map enc)) (hL : bs.length ≤ sizeLine) (hu : ∀ b, b ∈ bs → A.units + 2 + (enc b).depth < cLine)
    (fin : ∀ (p : Addr) (out : List Value) (h' : Heap) (m : Nat), s.heap.objs.size ≤ p → (∀ b o, s.heap.get? b = some o → h'.get? b = some o) → out.length = bs.length → EachIs R out (bs.mergeSort (dataLe false enc)) → h'.get? p = some (seqObj "list" out.toArray m) → Q (.ref p) { s with heap := h' }) :
    wpAny (model prog w) A (call (.builtin "sorted") [.ref l]) Q E s := by
  have hv : vs.length ≤ sizeLine := by rw [e.length]; exact hL
  refine call_function_entry kind_sorted plain_sorted entry_sorted (args_sorted1 _) ?_
  unfold Builtin.«sorted»
  refine wpAny_bind (m := checkCount "sorted" 1 1 _) (wpAny_pure ?_)
  refine wpAny_bind (gather hT h1 h2 h3 (by simpa using hv) fun g hsz hg => ?_)
  refine wpAny_bind (wpAny_newList ?_ (by simpa using hv))
  have here : (g.push (seqObj "list" vs.toArray 0)).get? g.objs.size = some (seqObj "list" vs.toArray 0) := Heap.get?_push_size _ rfl
  have old : ∀ b o, s.heap.get? b = some o → (g.push (seqObj "list" vs.toArray 0)).get? b = some o := fun b o q => Heap.get?_push_of_some _ (hg b o q)
  refine wpAny_bind (wpAny_holding (list_sort_T (s := { s with heap := g.push (seqObj "list" vs.toArray 0) }) (enc := enc) here e ?_ hal hk hL (fun b hb => by have := hu b hb; show A.units + 1 + 1 + _ < _; omega) fun out n1 n2 => ?_))
  · refine er.mono fun v b ⟨as, r⟩ => ⟨as, PyProof.Rows.Reads.keeps (fun c o q => old c o q) r, fun hm => ?_⟩
    obtain ⟨o, q⟩ := PyProof.On.reads_mem_get r _ hm
    exact absurd (Heap.lt_size (hg _ _ q)) (Nat.lt_irrefl _)
  · obtain ⟨m, hm⟩ := sortedHeap_at (vs := vs) (out := out.toArray) here
    refine wpAny_pure ⟨_, rfl, fin g.objs.size out _ m hsz (fun b o q => ?_) n1 n2 hm⟩
    have hb := Heap.lt_size (hg b o q)
    exact (sortedHeap_old (Nat.ne_of_lt hb) (Heap.lt_size (old b o q))).trans (old b o q)
end

/-! ### the rule -/
/-- sorted(xs): a list or a tuple of alike data -/
def rSrt (K : PySem.W.Frag) : List V → Hp → VK → Prop := fun xs H Q => ∃ (p : Addr) (bs : List (V × PyData)), xs = [.ref p] ∧ (SqL K H p (bs.map (·.1)) ∨ SqT K H p (bs.map (·.1))) ∧ (∀ b ∈ bs, Dp K H b.1 b.2) ∧
  AllAlike (bs.map (·.2)) ∧ SortT (bs.map (·.2)) ∧ (∀ b ∈ bs, b.2.depth ≤ 60) ∧ ∀ q, H q = none → Q (.ref q) (upd H q (.lst ((bs.mergeSort (dataLe false (·.2))).map (·.1))))
theorem each_vals : ∀ {its : List Value} {bs : List (V × PyData)}, Vals (bs.map (·.1)) its → EachIs (fun v b => RelV b.1 v) its bs
  | _, [], r => by cases r; exact .nil
  | _, b :: bs, r => by
    have r' : Vals (b.1 :: bs.map (·.1)) _ := r
    cases r' with
    | cons h1 h2 => exact .cons h1 (each_vals h2)
theorem vals_each : ∀ {its : List Value} {bs : List (V × PyData)}, EachIs (fun v b => RelV b.1 v) its bs → Vals (bs.map (·.1)) its
  | _, _, .nil => .nil
  | _, _, .cons h1 h2 => .cons h1 (vals_each h2)
section
variable {X : Cx}
theorem cr_srt (hu : X.A.units + 64 < cLine) : CallR X (.builtin "sorted") (rSrt X.K) := by
  intro pins s σ H vs us Q I r h
  obtain ⟨p, bs, rfl, hs, hd, ha, hk, hdp, q⟩ := h
  rw [Vals.ref1 r]
  have hub : ∀ b, b ∈ bs → X.A.units + 2 + b.2.depth < cLine := fun b hb => by have := hdp b hb; omega
  have key : ∀ (its : List Value) (ty : String) (ob : Obj) (ep : Nat), Vals (bs.map (·.1)) its → (bs.map (·.1)).length ≤ sizeLine → (ty = "list" ∨ ty = "tuple") → s.heap.get? p = some ob → ob.cls = .type ty → ob.data = .seq its.toArray ep →
      wpAny (model X.prog X.w) X.A (call (.builtin "sorted") [.ref p]) (EP X pins σ Q) X.xe s := by
    intro its ty ob ep rv hz hT h1 h2 h3
    have e := each_vals rv
    have hl : bs.length ≤ sizeLine := by simpa using hz
    refine sorted_sq (R := fun v b => RelV b.1 v) (enc := fun b : V × PyData => b.2) hT h1 h2 h3 e ((each_mem e).mono fun v b hb => Dp.reads I _ _ _ (hd b hb.2) hb.1) ha hk hl hub fun a out h' m hsz hk' n1 n2 hm => ?_
    have hlen : ((bs.mergeSort (dataLe false (·.2))).map (·.1)).length ≤ sizeLine := by
      rw [List.length_map, List.length_mergeSort]; exact hl
    exact ⟨.ref _, upd H a (.lst ((bs.mergeSort (dataLe false (·.2))).map (·.1))), I.laid (t' := s.toks) (fun b o z => hk' b o z) hsz ⟨hlen, out, m, vals_each n2, hm⟩, rfl, q _ (I.hok.fresh hsz)⟩
  rcases hs with hs | hs
  · obtain ⟨its, rv, ⟨o, n, h1, h2, h3, h4⟩, hz⟩ := I.list hs
    exact key its "list" o n rv hz (.inl rfl) h1 h2 h4
  · obtain ⟨its, rv, ⟨o, h1, h2, n, h4⟩, hz⟩ := I.tuple hs
    exact key its "tuple" o n rv hz (.inr rfl) h1 h2 h4
end
/-! ### type(x) != T, of the same type -/
section
open PySem PySem.Spec PyProof.Rows
theorem slot_type_ne : Slot "type" (cmpInfo .NotEq).2.1 "object.__ne__" :=
  .of (owner := "object") (n := "__ne__") (by rw [typeLookup_type, builtinLookup_eq_fast]; kernel_rfl) (by decide +kernel) (by decide +kernel) (by decide +kernel)
    (by first | exact .inl (by decide +kernel) | exact .inr (by decide +kernel)) (by rw [isSubtype_type]; kernel_rfl)
variable {prog : Program} {w : World} {A : Around} {E : Value → Shared → Prop} {s : Shared} {Q : Value → Shared → Prop}
theorem ne_type_same {X : String} (hX : ∀ s' : Shared, s'.TypeIs (.type X) "type") (hu : A.units + 4 < cLine) (h : Q (.bool false) s) : wpAny (model prog w) A (compareOp .NotEq (.type X) (.type X)) Q E s := by
  show wpAny _ A (richCompare .NotEq _ _) Q E s
  refine wpAny_richCompare_same (T := "type") (hX s) (hX s) slot_type_ne ?_
  refine wpAny_call_entry slot_type_ne (hX s) F.cmpEntry_ne ?_ (F.cmpArgs_ne _ _)
  unfold Builtin.«object.__ne__»
  refine wpAny_bind (wpAny_of_eq (a := (Value.type X, [Value.type X])) (by first | rfl | kernel_rfl | (simp only [slotArgs]; rfl)) ?_)
  refine wpAny_bind (wpAny_cRoomFor (by show A.units + 1 < _; omega) ?_)
  refine wpAny_bind (wpAny_callSpecialIfBound?_slot (hX s) TypeEq.slot_type_eq ?_)
  refine call_gives TypeEq.slot_type_eq (hX s) F.entry_object_eq (F.args_object_eq_2 _ _) (TypeEq.object_eq_same rfl (by simp)) ?_
  refine wpAny_bind (wpAny_truthy_bool ?_)
  exact wpAny_pure ⟨_, rfl, (by intro z; cases z), h⟩
end
/-! ### min of a list of alike data -/
section
open PySem.W PySem.SeqAt
variable {prog : Program} {w : World} {A : Around} {E : Value → Shared → Prop} {s : Shared}
theorem min_list_at {l : Addr} {vs : Array Value} {x : PyData} {xs : List PyData} {as : List Addr} {Q : Value → Shared → Prop} (hh : A.handled = none) (hl : s.heap.IsList l vs) (hr : ReadsAll s.heap vs.toList (x :: xs) as) (ha : AlikeAll (x :: xs)) (hu : A.units + 1 + PyData.depthAll (x :: xs) < cLine)
    (h : ∀ (i : Nat) v h' tk, vs[i]? = some v → (x :: xs)[i]? = some (minD x xs) → (∀ b o, s.heap.get? b = some o → h'.get? b = some o) → Q v { s with heap := h', toks := tk }) :
    wpAny (model prog w) A (call (.builtin "min") [.ref l]) Q E s := by
  have hn : vs.size = xs.length + 1 := readsAll_len hr
  refine call_min_walkH (iter_listW (A := A.in1) hh hl fun s₂ e W st hfp hw hk => ?_)
  refine ⟨_, _, _, _, _, _, _, s.heap, _, rfl, W, st, hfp, by omega, hw, hk, cmpIn_lt (A := A.in1) hr ha (by show A.units + 1 + _ < _; exact hu), fun v s' hP m => ?_⟩
  obtain ⟨h', tk, rfl, hk'⟩ := moved_old e rfl m
  obtain ⟨bs, r, hi, _, _⟩ := readsAll_atA hr _ v hP
  have e1 : vs.size - 1 = xs.length := by omega
  have e2 := (argBest_fold dataLt PyData.none x xs xs.length (Nat.le_refl _)).2
  rw [List.take_length] at e2
  rw [e1] at hi
  refine h _ v h' tk hP ?_ hk'
  rw [e1, List.getElem?_eq_getElem hi]
  rw [List.getD_eq_getElem?_getD, List.getElem?_eq_getElem hi, Option.getD_some] at e2
  rw [e2]; rfl
end
def rMinD (K : PySem.W.Frag) : List V → Hp → VK → Prop := fun xs H Q => ∃ (p : Addr) (ws : List V) (d : PyData) (ds : List PyData), xs = [.ref p] ∧ SqL K H p ws ∧ DpAll K H ws (d :: ds) ∧ PySem.W.AlikeAll (d :: ds) ∧ PyData.depthAll (d :: ds) ≤ 60 ∧
  ∀ (i : Nat) (v : V), ws[i]? = some v → (d :: ds)[i]? = some (PySem.W.minD d ds) → Q v H
theorem valsGetV : ∀ {xs : List V} {us : List Value} {i : Nat} {u : Value}, Vals xs us → us[i]? = some u → ∃ x, xs[i]? = some x ∧ RelV x u
  | _, _, _, _, .nil, e => by simp at e
  | _, _, 0, _, .cons r _, e => by simp at e; subst e; exact ⟨_, rfl, r⟩
  | _, _, i + 1, u, .cons _ t, e => by
    obtain ⟨x, h1, h2⟩ := valsGetV (i := i) t (by simpa using e)
    exact ⟨x, by simpa using h1, h2⟩
theorem cr_minD {X : Cx} (hc : X.calm = true) (hu : X.A.units + 64 < cLine) : CallR X (.builtin "min") (rMinD X.K) := by
  intro pins s σ H vs us Q I r h
  obtain ⟨p, ws, d, ds, rfl, hs, hd, ha, hdp, q⟩ := h
  obtain ⟨its, rv, hl, _⟩ := I.list hs
  rw [Vals.ref1 r]
  obtain ⟨as, hr⟩ := Dp.readsAll I _ _ _ hd rv
  refine min_list_at (I.ok.hd hc) hl.isList (by simpa using hr) ha (by omega) fun i v h' tk hv hi hk => ?_
  obtain ⟨w, hw, rw'⟩ : ∃ w, ws[i]? = some w ∧ RelV w v := by
    have hv' : its[i]? = some v := by simpa using hv
    exact valsGetV rv hv'
  exact ⟨w, H, I.kept (t' := tk) hk, rw', q i w hw hi⟩
/-! ### in a tuple of data; the less of two alike ones -/
def rInDT (K : PySem.W.Frag) : R2 := fun x y H Q => ∃ d ds, Dp K H x d ∧ (Dp K H y (.list ds) ∨ Dp K H y (.tuple ds)) ∧ SeqAt.shaped d = true ∧ PyData.canLayAll0 ds = true ∧ Q (.bl (ds.any fun z => PyData.eqv z d)) H
def rNiDT (K : PySem.W.Frag) : R2 := fun x y H Q => ∃ d ds, Dp K H x d ∧ (Dp K H y (.list ds) ∨ Dp K H y (.tuple ds)) ∧ SeqAt.shaped d = true ∧ PyData.canLayAll0 ds = true ∧ Q (.bl (!ds.any fun z => PyData.eqv z d)) H
def rLtD (K : PySem.W.Frag) : R2 := fun x y H Q => ∃ d e, Dp K H x d ∧ Dp K H y e ∧ PySem.W.alike d e = true ∧ d ≠ .none ∧ d.depth ≤ 60 ∧ Q (.bl (PySem.W.dataLt d e)) H
section
variable {X : Cx}
theorem op_inDT (hu : X.A.units + 65 < cLine) : OpR X (compareOp .In) (rInDT X.K) := by
  intro pins s σ H x y v u Q I rx ry ⟨d, ds, hd, he, sd, se, q⟩
  have room := room_in_shaped (xs := ds) sd hu
  obtain ⟨as, r1⟩ := Dp.reads I _ _ _ hd rx
  rcases he with he | he
  · obtain ⟨bs, r2⟩ := Dp.reads I _ _ _ he ry
    exact SeqAt.in_list_reads r2 r1 se (SeqAt.canLay_of_shaped sd) room ⟨.bl _, H, I, rfl, q⟩
  · obtain ⟨bs, r2⟩ := Dp.reads I _ _ _ he ry
    exact SeqAt.in_tuple_reads r2 r1 se (SeqAt.canLay_of_shaped sd) room ⟨.bl _, H, I, rfl, q⟩
theorem op_niDT (hu : X.A.units + 65 < cLine) : OpR X (compareOp .NotIn) (rNiDT X.K) := by
  intro pins s σ H x y v u Q I rx ry ⟨d, ds, hd, he, sd, se, q⟩
  have room := room_in_shaped (xs := ds) sd hu
  obtain ⟨as, r1⟩ := Dp.reads I _ _ _ hd rx
  rcases he with he | he
  · obtain ⟨bs, r2⟩ := Dp.reads I _ _ _ he ry
    exact SeqAt.notIn_list_reads r2 r1 se (SeqAt.canLay_of_shaped sd) room ⟨.bl _, H, I, rfl, q⟩
  · obtain ⟨bs, r2⟩ := Dp.reads I _ _ _ he ry
    exact SeqAt.notIn_tuple_reads r2 r1 se (SeqAt.canLay_of_shaped sd) room ⟨.bl _, H, I, rfl, q⟩
theorem op_ltD (hu : X.A.units + 64 < cLine) : OpR X (compareOp .Lt) (rLtD X.K) := by
  intro pins s σ H x y v u Q I rx ry ⟨d, e, hd, he, ha, hn, hl, q⟩
  obtain ⟨as, r1⟩ := Dp.reads I _ _ _ hd rx
  obtain ⟨bs, r2⟩ := Dp.reads I _ _ _ he ry
  exact PySem.W.rcLt_alike d e X.A s v u as bs r1 r2 ha hn (by omega) _ _ _ _ ⟨.bl _, H, I, rfl, q⟩
end
end Ws

/-! WsB: t[::-1] of a tuple. -/
namespace Ws
open PySem PySem.Spec PyProof.Rows L2 HT

theorem adj_rev (n : Nat) : Builtin.Slice.sliceAdjust none none (-1) (n : Int) = ((n : Int) - 1, -1) := by
  unfold Builtin.Slice.sliceAdjust
  simp
theorem places_rev (n : Nat) : Builtin.Slice.slicePlaces ((n : Int) - 1) (-1) (-1) = n := by
  unfold Builtin.Slice.slicePlaces
  simp
  omega
theorem pick_rev (xs : List Value) : ((List.range xs.length).filterMap fun m : Nat => xs[(((xs.length : Int) - 1) + (m : Int) * (-1)).toNat]?) = xs.reverse := by
  have h1 : ∀ k, k ≤ xs.length → ((List.range k).filterMap fun m : Nat => xs[(((xs.length : Int) - 1) + (m : Int) * (-1)).toNat]?) = xs.reverse.take k := by
    intro k
    induction k with
    | zero => intro _; rfl
    | succ k ih =>
      intro hk
      have hlt : xs.length - 1 - k < xs.length := by omega
      have e : (((xs.length : Int) - 1) + (k : Int) * (-1)).toNat = xs.length - 1 - k := by omega
      rw [List.range_succ, List.filterMap_append, ih (by omega), List.take_succ]
      congr 1
      have e1 : xs[(((xs.length : Int) - 1) + (k : Int) * (-1)).toNat]? = some xs[xs.length - 1 - k] := by rw [e]; exact List.getElem?_eq_getElem hlt
      rw [List.filterMap_cons, e1, List.filterMap_nil, List.getElem?_reverse (by omega), List.getElem?_eq_getElem hlt]
      rfl
  rw [h1 xs.length (Nat.le_refl _)]
  exact List.take_of_length_le (by rw [List.length_reverse]; exact Nat.le_refl _)
section
variable {prog : Program} {w : World} {A : Around} {E : Value → Shared → Prop} {s : Shared}
theorem applied_rev {sl : Addr} {t : Tok} {n : Nat} {Q : Int × Int × Nat → Shared → Prop} (hs : s.heap.IsSliceOf sl .none .none (.int (-1) t)) (h : Q ((n : Int) - 1, -1, n) s) : wpAny (model prog w) A (Builtin.Slice.sliceApplied (.ref sl) (pure (n : Int))) Q E s := by
  obtain ⟨os, hos, _, hds⟩ := id hs
  unfold Builtin.Slice.sliceApplied Builtin.Slice.sliceFields
  refine wpAny_bind (wpAny_bind (wpAny_field hos hds (x := .none) rfl (wpAny_bind (wpAny_field hos hds (x := .none) rfl (wpAny_bind (wpAny_field hos hds (x := .int (-1) t) rfl (wpAny_pure ?_)))))))
  refine wpAny_bind (slicePart_int ?_)
  show wpAny _ _ (if ((-1 : Int) == 0) = true then _ else _) _ _ s
  rw [if_neg (by decide)]
  refine wpAny_bind (slicePart_none (wpAny_bind (slicePart_none (wpAny_bind (wpAny_pure ?_)))))
  show wpAny _ _ (match Builtin.Slice.sliceAdjust none none (-1) (n : Int) with | (a, b) => pure (a, (-1 : Int), Builtin.Slice.slicePlaces a b (-1))) _ _ s
  rw [adj_rev]
  show wpAny _ _ (pure ((n : Int) - 1, (-1 : Int), Builtin.Slice.slicePlaces ((n : Int) - 1) (-1) (-1))) _ _ s
  rw [places_rev]
  exact wpAny_pure h
theorem getItem_rev {p sl : Addr} {its : List Value} {t : Tok} {Q : Value → Shared → Prop} (ht : IsTup s.heap p its.toArray) (hs : s.heap.IsSliceOf sl .none .none (.int (-1) t)) (hz : its.length ≤ sizeLine)
    (h : Q (.ref s.heap.objs.size) { s with heap := s.heap.push { cls := .type "tuple", data := .seq its.reverse.toArray } }) : wpAny (model prog w) A (getItem (.ref p) (.ref sl)) Q E s := by
  obtain ⟨os, hos, hcs, _⟩ := id hs
  have hTs : s.TypeIs (.ref sl) "slice" := ⟨os, hos, hcs⟩
  have hok : sizeOk (.seq its.reverse.toArray) := by show its.reverse.toArray.size ≤ sizeLine; simpa using hz
  unfold getItem
  try with_reducible refine wpAny_holding ?_
  first | refine wpAny_bind (wpAny_pure ?_) | skip
  refine wpAny_bind (wpAny_sequenceKey ht.typeIs (by decide) (wpAny_bind (wpAny_callSpecial?_slot (name := Str.ofString "__getitem__") ht.typeIs slot_tuple_getitem (wpAny_call_entry slot_tuple_getitem ht.typeIs entry_tuple_getitem ?_ (args_tuple_getitem _ _)))))
  show wpAny _ _ (Builtin.Tuple.tupleItemsOf (.ref p) >>= _) _ _ s
  refine wpAny_bind (tupleItemsOf_ ht (wpAny_bind (wpAny_typeOf hTs ?_)))
  rw [if_pos (by decide)]
  refine wpAny_bind (applied_rev hs ?_)
  have hno : ¬ (((((its.toArray.size : Nat) : Int) - 1) == 0 && (-1 : Int) == 1 && its.toArray.size == its.toArray.size) = true) := by simp
  show wpAny _ _ (if ((((its.toArray.size : Nat) : Int) - 1) == 0 && (-1 : Int) == 1 && its.toArray.size == its.toArray.size) = true then _ else _) _ _ s
  rw [if_neg hno]
  have e : ((List.range its.toArray.size).filterMap fun m : Nat => its.toArray[(((its.toArray.size : Nat) : Int) - 1 + (m : Int) * (-1)).toNat]?).toArray = its.reverse.toArray := by
    have := pick_rev its
    simp only [List.size_toArray, List.getElem?_toArray]
    rw [this]
  rw [e]
  first
    | exact wpAny_bind (m := Builtin.Tuple.tupleExact _) (wpAny_newObj_type (wpAny_pure ⟨_, rfl, wpAny_pure h⟩) hok)
    | exact wpAny_bind (m := Builtin.Tuple.tupleExact _) (wpAny_newObj_type (wpAny_bind (wpAny_pure (wpAny_pure ⟨_, rfl, wpAny_pure h⟩))) hok)
    | exact wpAny_bind (wpAny_bind (m := Builtin.Tuple.tupleExact _) (wpAny_newObj_type (wpAny_pure (wpAny_pure ⟨_, rfl, wpAny_pure h⟩)) hok))
    | exact wpAny_bind (wpAny_bind (m := Builtin.Tuple.tupleExact _) (wpAny_newObj_type (wpAny_pure ⟨_, rfl, wpAny_pure h⟩) hok))
end
/-- t[::-1], a tuple -/
def tRevT (K : PySem.W.Frag) (te : TE) : TE := fun σ H Q => te σ H fun x H1 => ∃ p xs, x = .ref p ∧ SqT K H1 p xs ∧ ∀ q, H1 q = none → Q (.ref q) (L2.upd H1 q (.tup xs.reverse))
theorem pe_revT {X : Cx} {e : Expr} {te : TE} {k : Nat} {p1 p2 p3 pos : Pos} (he : PE X e te) : PE X (.Subscript e (.Slice none none (some (.UnaryOp .USub (.Constant (.int 1) k p1) p2)) p3) pos) (tRevT X.K te) := by
  refine ⟨fun pins s σ H Q I h => Subscript_ (thn (he.run pins s σ H _ I h) fun v s1 ⟨x, H1, I1, r1, p, xs, ex, hx, q⟩ => ?_)⟩
  subst ex; cases r1
  have step : PO X (some (.UnaryOp .USub (.Constant (.int 1) k p1) p2)) (tPart (tUn (rU fun i => .int (-i)) (tC (.int 1)))) := po_some (pe_un un_neg pe_int)
  refine wpAny_Slice (thn (po_none.run pins s1 σ H1 (fun o G => o = none ∧ G = H1) I1 ⟨rfl, rfl⟩) fun v1 s2 ⟨o1, G1, I2, w1, d1, d2⟩ => ?_)
  subst d1 d2; cases w1
  refine thn (po_none.run pins s2 σ G1 (fun o G => o = none ∧ G = G1) I2 ⟨rfl, rfl⟩) fun v2 s3 ⟨o2, G2, I3, w2, d1, d2⟩ => ?_
  subst d1 d2; cases w2
  refine thn (step.run pins s3 σ G2 (fun o G => o = some (-1) ∧ G = G2) I3 ⟨1, rfl, -1, rfl, rfl, rfl⟩) fun v3 s4 ⟨o3, G3, I4, w3, d1, d2⟩ => ?_
  subst d1 d2; cases w3
  rename_i tk _
  have I5 : L2.Inv X pins σ G3 { s4 with heap := s4.heap.push { cls := .type "slice", data := .fields #[.none, .none, .int (-1) tk] } } := I4.kept (t' := s4.toks) fun b ob z => Heap.get?_push_of_some _ z
  obtain ⟨its, rv, ht, hz⟩ := I5.tuple hx
  have hl := rv.length
  show wpAny (model X.prog X.w) X.A (subscriptTail e (.Slice none none (some (.UnaryOp .USub (.Constant (.int 1) k p1) p2)) p3) (.ref p) (.ref s4.heap.objs.size)) (EP X pins σ Q) X.xe { s4 with heap := s4.heap.push { cls := .type "slice", data := .fields #[.none, .none, .int (-1) tk] } }
  refine tail_any (ops := [.ref p, .ref s4.heap.objs.size]) ht.typeIs slot_tuple_getitem.lookup (getItem_rev ht (Heap.IsSliceOf.new _ .none .none (.int (-1) tk)) (by omega) ?_) (by with_unfolding_all rfl)
  exact ⟨.ref _, _, I5.laid (t' := s4.toks) (o := .tup xs.reverse) (fun b ob z => Heap.get?_push_of_some _ z) (Nat.le_refl _) ⟨by rw [List.length_reverse]; exact hz, _, rv.reverse, IsTup.new _ _⟩, rfl, q _ (I5.hok.fresh (Nat.le_refl _))⟩
end Ws

/-! Ws2: the program's text in short (CE, CS), and what it is worth (evE, evS). -/
namespace Ws
open PySem L2

inductive BOp where | add | sub | mul | mod | fdiv | pow
  deriving DecidableEq
inductive COp where | eq | ne | lt | le | gt | ge | isN | isNN | mem | nmem | isB | isNB
  deriving DecidableEq
/-- built-ins by name -/
inductive Bi where | len | all | any | sum | list | tuple | sorted | min2 | max2 | min1 | max1 | abs | int | type | isi | mind
  deriving DecidableEq
/-- targets -/
inductive Tg where
  | nm (i : Nat)
  | tp (l : List Nat)
mutual
inductive CE where
  | non | bl (b : Bool) | int (i : Int) | str (s : Str) | ty (n : String)
  | var (i : Nat) | glo (x : Str)
  | tup (l : List CE) | lst (l : List CE)
  | bin (o : BOp) (a b : CE) | neg (a : CE)
  | not (a : CE) | and (a b : CE) | or (a b : CE)
  | cmp (o : COp) (a b : CE) | chain (o o' : COp) (a b c : CE)
  | ite (c a b : CE)
  | idx (a i : CE) | sli (a : CE) (lo hi : Option CE) | rev (a : CE)
  | call (f : Str) (l : List CE) | bi (b : Bi) (l : List CE)
  | comp (elt : CE) (tg : Tg) (it : CI) (ifs : Option CE) (own : List (Str × Nat))
  /-- two clauses -/
  | comp2 (elt : CE) (tg : Tg) (it : CI) (ifs : Option CE) (tg1 : Tg) (it1 : CI) (ifs1 : Option CE) (own : List (Str × Nat))
  /-- list, tuple (t) of a range -/
  | rg1 (t : Bool) (b : CE) | rg2 (t : Bool) (a b : CE)
  | gcd (a b : CE)
inductive CI where
  | seq (e : CE) | rng1 (b : CE) | rng2 (a b : CE) | zip (a b : CE)
  /-- combinations of a range, of a list or tuple -/
  | cb1 (b m : CE) | cb2 (a b m : CE) | cbl (e m : CE)
  | enum (e : CE)
end
inductive CS where
  | asg (t : Tg) (e : CE)
  /-- a name that holds the new list of e alone -/
  | asgO (i : Nat) (e : CE)
  /-- the list of i is changed no more -/
  | frz (i : Nat)
  | app (i : Nat) (e : CE)
  | setI (i : Nat) (k e : CE)
  /-- the stream's cell (1) or place (2) -/
  | sset (i : Nat) (j : Int) (e : CE)
  | augI (i : Nat) (k e : CE)
  | aug (i : Nat) (o : BOp) (e : CE)
  | ife (c : CE) (a b : List CS)
  | for_ (t : Tg) (it : CI) (b : List CS)
  | ret (e : CE)
  | retO (i : Nat)
  | par (i j : Nat) (a b : CE)
  /-- f(..).append(e): what f returns is dropped -/
  | drop (f : Str) (l : List CE) (e : CE)
  | exp (e : CE)
  | stop
  | pass
  /-- [i.pop(e) for tg in it], wrapped by w, the outermost first; stored (t), or returned -/
  | pop (t : Option Nat) (w : List Bi) (i : Nat) (e : CE) (tg : Nat) (it : CI) (own : List (Str × Nat))

/-! ### values -/
def PV.seq? : PV → Option (List PV)
  | .tup l => some l
  | .lst l => some l
  | .own l => some l
  | _ => none
def PV.lst? : PV → Option (List PV)
  | .lst l => some l
  | .own l => some l
  | _ => none
def PV.tup? : PV → Option (List PV)
  | .tup l => some l
  | _ => none
def PV.int? : PV → Option Int
  | .int i => some i
  | _ => none
def PV.bl? : PV → Option Bool
  | .bl i => some i
  | _ => none
def ints? : List PV → Option (List Int)
  | [] => some []
  | .int i :: r => (ints? r).map (i :: ·)
  | _ :: _ => none
def bls? : List PV → Option (List Bool)
  | [] => some []
  | .bl i :: r => (bls? r).map (i :: ·)
  | _ :: _ => none
/-- a bound for the lengths of what is made -/
def LIM : Nat := 1000000
def big : Int := 2 ^ 62
/-- truth -/
def PV.tru : PV → Option Bool
  | .non => some false
  | .bl b => some b
  | .int i => some (i != 0)
  | .tup l => some (!l.isEmpty)
  | .lst l => some (!l.isEmpty)
  | .own l => some (!l.isEmpty)
  | _ => none
mutual
def PV.pd : PV → Option PyData
  | .non => some .none
  | .bl b => some (.bool b)
  | .int i => some (.int i)
  | .str s => some (.str s)
  | .tup l => (PV.pds l).map .tuple
  | .lst l => (PV.pds l).map .list
  | .own l => (PV.pds l).map .list
  | _ => none
def PV.pds : List PV → Option (List PyData)
  | [] => some []
  | x :: xs => (PV.pd x).bind fun d => (PV.pds xs).map (d :: ·)
end
def eqD (x y : PV) : Option Bool :=
  match x.pd, y.pd with
  | some d, some e => if SeqAt.shaped d && SeqAt.shaped e then some (PyData.eqv d e) else none
  | _, _ => none
def knownTy (n : String) : Bool := n == "NoneType" || n == "bool" || n == "int" || n == "str" || n == "tuple" || n == "list"
def eqP (x y : PV) : Option Bool :=
  match x, y with
  | .int i, .int j => some (decide (i = j))
  | .ty n, .ty m => if knownTy n && knownTy m then some (n == m) else none
  | x, y => eqD x y
def neP (x y : PV) : Option Bool :=
  match x, y with
  | .ty n, .ty m => if knownTy n && n == m then some false else none
  | x, y => (eqP x y).map (!·)
mutual
/-- data as a plain value -/
def ofD : PyData → PV
  | .none => .non
  | .bool b => .bl b
  | .int i => .int i
  | .str s => .str s
  | .list l => .lst (ofDs l)
  | .tuple l => .tup (ofDs l)
  | .dict _ => .stm
def ofDs : List PyData → List PV
  | [] => []
  | d :: ds => ofD d :: ofDs ds
end
def noNone : PyData → Bool
  | .none => false
  | _ => true
/-- min of a list of alike data -/
def mnV (l : List PV) : Option PV := (PV.pds l).bind fun ds => match ds with
  | [] => none
  | d :: r => if (d :: r).all (fun x => (d :: r).all (PySem.W.alike x)) && (d :: r).all noNone && decide (PyData.depthAll (d :: r) ≤ 60) then some (ofD (PySem.W.minD d r)) else none
def isTup1 : PyData → Bool
  | .tuple _ => true
  | _ => false
def isOt : PyData → Bool
  | .none => false
  | .tuple _ => false
  | _ => true
def srtLe (p q : PV × PyData) : Bool := !PySem.W.dataLt q.2 p.2
/-- sorted: alike data -/
def srtV (l : List PV) : Option (List PV) := (PV.pds l).bind fun ds =>
  if ds.all (fun d => ds.all (PySem.W.alike d)) && (ds.all isTup1 || ds.all isOt) && ds.all (fun d => decide (d.depth ≤ 60)) then some ((isort srtLe (l.zip ds)).map (·.1)) else none
/-- flat things, for in -/
def PV.flat1 : PV → Bool
  | .non => true | .bl _ => true | .int _ => true | .str _ => true | _ => false
def eqF : PV → PV → Bool
  | .non, .non => true
  | .bl a, .bl b => a == b
  | .bl a, .int b => (if a then 1 else 0) == b
  | .int a, .bl b => a == (if b then 1 else 0)
  | .int a, .int b => a == b
  | .str a, .str b => a == b
  | _, _ => false
def memD (x : PV) (l : List PV) : Option Bool :=
  match x.pd, PV.pds l with
  | some d, some ds => if SeqAt.shaped d && PyData.canLayAll0 ds then some (ds.any fun z => PyData.eqv z d) else none
  | _, _ => none
def memV (x : PV) (l : List PV) : Option Bool := if x.flat1 && l.all PV.flat1 then some (l.any fun y => eqF y x) else memD x l
def notNone : PyData → Bool
  | .none => false
  | _ => true
def ltD (x y : PV) : Option Bool :=
  match x.pd, y.pd with
  | some d, some e => if PySem.W.alike d e && notNone d && decide (d.depth ≤ 60) then some (PySem.W.dataLt d e) else none
  | _, _ => none
def cmpV (o : COp) (x y : PV) : Option Bool :=
  match o with
  | .eq => eqP x y
  | .ne => neP x y
  | .lt => match x, y with | .int i, .int j => some (decide (i < j)) | x, y => ltD x y
  | .le => match x, y with | .int i, .int j => some (decide (i ≤ j)) | _, _ => none
  | .gt => match x, y with | .int i, .int j => some (decide (j < i)) | _, _ => none
  | .ge => match x, y with | .int i, .int j => some (decide (j ≤ i)) | _, _ => none
  | .isN => match y with | .non => some (match x with | .non => true | _ => false) | _ => none
  | .isNN => match y with | .non => some (match x with | .non => false | _ => true) | _ => none
  | .mem => y.seq?.bind (memV x)
  | .nmem => (y.seq?.bind (memV x)).map (!·)
  | .isB => match x, y with | .bl a, .bl b => some (decide (a = b)) | _, _ => none
  | .isNB => match x, y with | .bl a, .bl b => some (!decide (a = b)) | _, _ => none
def sml (i : Int) : Bool := decide (-(2 ^ 64) < i) && decide (i < 2 ^ 64)
def catL : Option (List PV) → Option (List PV) → Option PV
  | some a, some b => if a.length + b.length ≤ LIM then some (.lst (a ++ b)) else none
  | _, _ => none
def repL : Option (List PV) → Int → Option PV
  | some a, k => if decide (-(2 ^ 62) ≤ k) && decide (k < 2 ^ 62) && decide (a.length * k.toNat ≤ LIM) then some (.lst (List.replicate k.toNat a).flatten) else none
  | none, _ => none
def binV (o : BOp) (x y : PV) : Option PV :=
  match o with
  | .add => match x, y with
    | .int i, .int j => some (.int (i + j))
    | .tup a, .tup b => if a.length + b.length ≤ LIM then some (.tup (a ++ b)) else none
    | x, y => catL x.lst? y.lst?
  | .sub => match x, y with | .int i, .int j => some (.int (i - j)) | _, _ => none
  | .mul => match x, y with
    | .int i, .int j => if sml i || sml j then some (.int (i * j)) else none
    | x, .int k => repL x.lst? k
    | _, _ => none
  | .mod => match x, y with | .int i, .int j => if decide (0 < j) then some (.int (i % j)) else none | _, _ => none
  | .fdiv => match x, y with | .int i, .int j => if decide (0 < j) && decide (j < 1073741824) then some (.int (i / j)) else none | _, _ => none
  | .pow => match x, y with | .int i, .int j => if decide (0 ≤ j) && decide (j ≤ 100) && decide (i.natAbs < 2 ^ 64) then some (.int (i ^ j.toNat)) else none | _, _ => none
def idxV (x y : PV) : Option PV :=
  match x.seq?, y with
  | some l, .int i => atI l i
  | _, _ => none
/-- an item of the stream: the script, the cell, the place -/
def stmV : Strm → PV → Option PV
  | some (scr, _, _), .int 0 => some (.lst (scr.map PV.int))
  | some (_, c, _), .int 1 => some (.int c)
  | some (_, _, k), .int 2 => some (.int k)
  | _, _ => none
def idxS (S : Strm) (x y : PV) : Option PV :=
  match x with
  | .stm => stmV S y
  | _ => idxV x y
def partV : Option PV → Option (Option Int)
  | none => some none
  | some (.int i) => some (some i)
  | _ => none
def cutP (xs : List PV) (lo hi : Option Int) : List PV := (xs.drop (HT.sIx xs.length 0 lo)).take (HT.sIx xs.length xs.length hi - HT.sIx xs.length 0 lo)
def sliV (x : PV) (lo hi : Option Int) : Option PV :=
  match x with
  | .tup l => some (.tup (cutP l lo hi))
  | .lst l => some (.lst (cutP l lo hi))
  | .own l => some (.lst (cutP l lo hi))
  | _ => none
def tyName : PV → Option String
  | .non => some "NoneType"
  | .bl _ => some "bool"
  | .int _ => some "int"
  | .str _ => some "str"
  | .tup _ => some "tuple"
  | .lst _ => some "list"
  | .own _ => some "list"
  | _ => none
def minL : List Int → Option Int
  | [] => none
  | x :: l => some (l.foldl (fun a b => if b < a then b else a) x)
def maxL : List Int → Option Int
  | [] => none
  | x :: l => some (l.foldl (fun a b => if a < b then b else a) x)
def biV (b : Bi) (l : List PV) : Option PV :=
  match b, l with
  | .len, [x] => x.seq?.map fun l => .int l.length
  | .all, [x] => (x.lst?.bind bls?).map fun l => .bl (l.all id)
  | .any, [x] => (x.lst?.bind bls?).map fun l => .bl (l.any id)
  | .sum, [x] => (x.lst?.bind ints?).map fun l => .int l.sum
  | .list, [x] => x.seq?.map .lst
  | .tuple, [x] => x.seq?.map .tup
  | .min2, [.int i, .int j] => some (.int (if j < i then j else i))
  | .max2, [.int i, .int j] => some (.int (if j > i then j else i))
  | .min1, [x] => ((x.lst?.bind ints?).bind minL).map .int
  | .max1, [x] => ((x.lst?.bind ints?).bind maxL).map .int
  | .sorted, [x] => (x.seq?.bind srtV).map .lst
  | .mind, [x] => x.lst?.bind mnV
  | .abs, [.int i] => some (.int (if i < 0 then -i else i))
  | .int, [.int i] => some (.int i)
  | .int, [.bl k] => some (.int (if k then 1 else 0))
  | .type, [x] => (tyName x).map .ty
  | .isi, [x, .ty n] => (tyName x).bind fun m => (kitB m n).map .bl
  | _, _ => none
/-- a handed list: it is read alone -/
def PV.thaw : PV → PV
  | .own l => .lst l
  | x => x

/-! ### what a def is worth -/
inductive Out where
  | ret (x : PV)
  | exc (c : Str) (xs : List PV)
abbrev Fn := List PV → Strm → Option (Out × Strm)
structure Tbl where
  fn : Str → Option (Nat × Fn)
  glo : Str → Option Int

def bindT (t : Tg) (x : PV) (env : Env) : Option Env :=
  match t with
  | .nm i => if x.isOwn then none else some (env.set i (some x))
  | .tp l => match x with
    | .tup xs => if xs.length = l.length then some ((l.zip xs).foldl (fun e p => e.set p.1 (some p.2)) env) else none
    | .lst xs => if xs.length = l.length then some ((l.zip xs).foldl (fun e p => e.set p.1 (some p.2)) env) else none
    | _ => none
def tgIx : Tg → List Nat
  | .nm i => [i]
  | .tp l => l
def wipeE (env : Env) : List Nat → Env
  | [] => env
  | v :: vs => (wipeE env vs).set v none

def evL (ev : CE → Strm → Option (PV × Strm)) : List CE → Strm → Option (List PV × Strm)
  | [], S => some ([], S)
  | e :: es, S => (ev e S).bind fun r => (evL ev es r.2).map fun q => (r.1 :: q.1, q.2)
/-- the items of a comprehension, one after another -/
def compL (step : PV → Strm → Option (Option PV × Strm)) : List PV → Strm → Option (List PV × Strm)
  | [], S => some ([], S)
  | x :: xs, S => (step x S).bind fun r => (compL step xs r.2).map fun q => (match r.1 with | some y => y :: q.1 | none => q.1, q.2)
def rangeV (i j : Int) : List PV := (List.range (j - i).toNat).map fun (k : Nat) => PV.int (i + (k : Int))
def inR (i : Int) : Bool := decide (-(2 ^ 62) ≤ i) && decide (i < 2 ^ 62)
def zipV (xs ys : List PV) : List PV := (xs.zip ys).map fun p => PV.tup [p.1, p.2]

def revV (r : PV × Strm) : Option (PV × Strm) :=
  match r.1 with
  | .tup l => some (.tup l.reverse, r.2)
  | .lst l => some (.lst l.reverse, r.2)
  | .own l => some (.lst l.reverse, r.2)
  | _ => none
def gcdV (r q : PV × Strm) : Option (PV × Strm) :=
  match r.1, q.1 with
  | .int i, .int j => some (.int ((Nat.gcd i.natAbs j.natAbs : Nat) : Int), q.2)
  | _, _ => none
def rgS (t : Bool) (i j : Int) : Option PV := if inR i && inR j && decide ((j - i).toNat ≤ LIM) then some (if t then .tup (rangeV i j) else .lst (rangeV i j)) else none
def rgV1 (t : Bool) (r : PV × Strm) : Option (PV × Strm) :=
  match r.1 with
  | .int j => (rgS t 0 j).map fun x => (x, r.2)
  | _ => none
def rgV2 (t : Bool) (r q : PV × Strm) : Option (PV × Strm) :=
  match r.1, q.1 with
  | .int i, .int j => (rgS t i j).map fun x => (x, q.2)
  | _, _ => none
/-- the next indices of a combination; all that come from these on, at most so many -/
def nextC (n : Nat) (indices : List Nat) : Option (List Nat) :=
  let r := indices.length
  match (List.range r).reverse.find? fun i => indices.getD i 0 != i + n - r with
  | none => none
  | some i => some (indices.take i ++ (List.range (r - i)).map (indices.getD i 0 + 1 + ·))
def cbFrom (n : Nat) : Nat → Option (List Nat) → Option (List (List Nat))
  | _, none => some []
  | 0, some _ => none
  | f + 1, some j => (cbFrom n f (nextC n j)).map (j :: ·)
def cbAll (n r : Nat) : Option (List (List Nat)) := cbFrom n 100000 (if r > n then none else some (List.range r))
def combV (xs : List PV) (k : Int) : Option (List PV) := if decide (0 ≤ k) && decide (k ≤ 1000) then (cbAll xs.length k.toNat).map fun js => js.map fun j => .tup (j.map fun i => xs.getD i .non) else none
def cbR (i j : Int) (q : PV × Strm) : Option (List PV × Strm) :=
  match q.1 with
  | .int k => if inR i && inR j && decide ((j - i).toNat ≤ LIM) then (combV (rangeV i j) k).map fun l => (l, q.2) else none
  | _ => none
def enumV (xs : List PV) : List PV := (List.range xs.length).map fun (i : Nat) => PV.tup [.int i, xs.getD i .non]
/-- what is walked -/
def itV (ok : Bool) (ev : CE → Strm → Option (PV × Strm)) (it : CI) (S : Strm) : Option (List PV × Strm) :=
  match it with
  | .seq e => (ev e S).bind fun r => if ok || !r.1.isOwn then r.1.seq?.map fun l => (l, r.2) else none
  | .rng1 b => (ev b S).bind fun r => match r.1 with | .int j => if inR j then some (rangeV 0 j, r.2) else none | _ => none
  | .rng2 a b => (ev a S).bind fun r => (ev b r.2).bind fun q => match r.1, q.1 with | .int i, .int j => if inR i && inR j then some (rangeV i j, q.2) else none | _, _ => none
  | .cb1 b m => (ev b S).bind fun r => match r.1 with | .int j => (ev m r.2).bind (cbR 0 j) | _ => none
  | .cb2 a b m => (ev a S).bind fun r => (ev b r.2).bind fun q => match r.1, q.1 with | .int i, .int j => (ev m q.2).bind (cbR i j) | _, _ => none
  | .cbl e m => (ev e S).bind fun r => if r.1.isOwn then none else (ev m r.2).bind fun q => match r.1.seq?, q.1 with | some l, .int k => (combV l k).map fun l => (l, q.2) | _, _ => none
  | .enum e => (ev e S).bind fun r => if ok || !r.1.isOwn then r.1.lst?.map fun l => (enumV l, r.2) else none
  | .zip a b => (ev a S).bind fun r => (ev b r.2).bind fun q => match r.1, q.1 with
    | .tup x, .tup y => some (zipV x y, q.2)
    | x, y => if ok || !(x.isOwn || y.isOwn) then (match x.lst?, y.lst? with | some x, some y => some (zipV x y, q.2) | _, _ => none) else none
/-- one item of a comprehension -/
def stepV (ev : CE → Env → Strm → Option (PV × Strm)) (elt : CE) (tg : Tg) (ifs : Option CE) (env : Env) (x : PV) (S : Strm) : Option (Option PV × Strm) :=
  (bindT tg x env).bind fun e1 =>
    (match ifs with | none => some (true, S) | some d => (ev d e1 S).bind fun r => r.1.tru.map fun b => (b, r.2) : Option (Bool × Strm)).bind fun k =>
      if k.1 then (ev elt e1 k.2).bind fun r => if r.1.isOwn then none else some (some r.1, r.2) else some (none, k.2)
def testV (ev : CE → Env → Strm → Option (PV × Strm)) (ifs : Option CE) (e1 : Env) (S : Strm) : Option (Bool × Strm) :=
  match ifs with
  | none => some (true, S)
  | some d => (ev d e1 S).bind fun r => r.1.tru.map fun b => (b, r.2)
/-- the items of two clauses -/
def compLL (step : PV → Strm → Option (List PV × Strm)) : List PV → Strm → Option (List PV × Strm)
  | [], S => some ([], S)
  | x :: xs, S => (step x S).bind fun r => (compLL step xs r.2).map fun q => (r.1 ++ q.1, q.2)
/-- one item of the first clause -/
def step2V (ev : CE → Env → Strm → Option (PV × Strm)) (elt : CE) (tg : Tg) (ifs : Option CE) (tg1 : Tg) (it1 : CI) (ifs1 : Option CE) (env : Env) (x : PV) (S : Strm) : Option (List PV × Strm) :=
  (bindT tg x env).bind fun e1 => (testV ev ifs e1 S).bind fun k =>
    if k.1 then (itV false (fun e S => ev e e1 S) it1 k.2).bind fun its => compL (stepV ev elt tg1 ifs1 (wipeE e1 (tgIx tg1))) its.1 its.2 else some ([], k.2)
/-- a part of a slice -/
def parV (ev : CE → Strm → Option (PV × Strm)) (e : Option CE) (S : Strm) : Option (Option Int × Strm) :=
  match e with
  | none => some (none, S)
  | some e => (ev e S).bind fun q => match q.1 with | .int i => some (some i, q.2) | _ => none

section
variable (T : Tbl)
def evE : Nat → CE → Env → Strm → Option (PV × Strm)
  | 0, _, _, _ => none
  | n + 1, c, env, S =>
    match c with
    | .non => some (.non, S)
    | .bl b => some (.bl b, S)
    | .int i => some (.int i, S)
    | .str s => some (.str s, S)
    | .ty s => some (.ty s, S)
    | .var i => match env[i]? with
      | some (some x) => some (x, S)
      | _ => none
    | .glo x => (T.glo x).map fun i => (.int i, S)
    | .tup l => (evL (fun e S => evE n e env S) l S).bind fun r => if r.1.all (fun x => !x.isOwn) && decide (r.1.length ≤ LIM) then some (.tup r.1, r.2) else none
    | .lst l => (evL (fun e S => evE n e env S) l S).bind fun r => if r.1.all (fun x => !x.isOwn) && decide (r.1.length ≤ LIM) then some (.lst r.1, r.2) else none
    | .bin o a b => (evE n a env S).bind fun r => (evE n b env r.2).bind fun q => (binV o r.1 q.1).map fun x => (x, q.2)
    | .neg a => (evE n a env S).bind fun r => match r.1 with | .int i => some (.int (-i), r.2) | _ => none
    | .not a => (evE n a env S).bind fun r => r.1.tru.map fun b => (.bl (!b), r.2)
    | .and a b => (evE n a env S).bind fun r => match r.1 with
      | .bl true => evE n b env r.2
      | .bl false => some (.bl false, r.2)
      | _ => none
    | .or a b => (evE n a env S).bind fun r => match r.1 with
      | .bl true => some (.bl true, r.2)
      | .bl false => evE n b env r.2
      | _ => none
    | .cmp o a b => (evE n a env S).bind fun r => (evE n b env r.2).bind fun q => (cmpV o r.1 q.1).map fun x => (.bl x, q.2)
    | .chain o o' a b d => (evE n a env S).bind fun r => (evE n b env r.2).bind fun q => (cmpV o r.1 q.1).bind fun x =>
      if x then (evE n d env q.2).bind fun u => (cmpV o' q.1 u.1).map fun y => (.bl y, u.2) else some (.bl false, q.2)
    | .ite d a b => (evE n d env S).bind fun r => r.1.tru.bind fun x => if x then evE n a env r.2 else evE n b env r.2
    | .idx a i => (evE n a env S).bind fun r => (evE n i env r.2).bind fun q => (idxS q.2 r.1 q.1).map fun x => (x, q.2)
    | .sli a lo hi => (evE n a env S).bind fun r => (parV (fun e S => evE n e env S) lo r.2).bind fun u => (parV (fun e S => evE n e env S) hi u.2).bind fun v => (sliV r.1 u.1 v.1).map fun x => (x, v.2)
    | .rev a => (evE n a env S).bind revV
    | .call f l => (T.fn f).bind fun φ => (evL (fun e S => evE n e env S) l S).bind fun r => if r.1.length = φ.1 then (φ.2 (r.1.map PV.thaw) r.2).bind fun q =>
      match q.1 with
      | .ret x => if r.1.all (fun x => !x.isOwn) || (x.flat && (r.2.isSome || q.2.isNone)) then some (x, q.2) else none
      | .exc _ _ => none
      else none
    | .bi b l => (evL (fun e S => evE n e env S) l S).bind fun r => (biV b r.1).map fun x => (x, r.2)
    | .rg1 t b => (evE n b env S).bind (rgV1 t)
    | .rg2 t a b => (evE n a env S).bind fun r => (evE n b env r.2).bind fun q => rgV2 t r q
    | .gcd a b => (evE n a env S).bind fun r => (evE n b env r.2).bind fun q => gcdV r q
    | .comp elt tg it ifs own => (itV true (fun e S => evE n e env S) it S).bind fun its =>
      if its.1.length ≤ LIM then
        (compL (stepV (fun e env S => evE n e env S) elt tg ifs (wipeE env (own.map (·.2)))) its.1 its.2).map fun r => (.lst r.1, r.2)
      else none
    | .comp2 elt tg it ifs tg1 it1 ifs1 own => (itV true (fun e S => evE n e env S) it S).bind fun its =>
        (compLL (step2V (fun e env S => evE n e env S) elt tg ifs tg1 it1 ifs1 (wipeE env (own.map (·.2)))) its.1 its.2).bind fun r => if r.1.length ≤ LIM then some (.lst r.1, r.2) else none
def evI (n : Nat) (it : CI) (env : Env) (S : Strm) : Option (List PV × Strm) := itV false (fun e S => evE T n e env S) it S
end

/-! ### statements -/
inductive Fl where
  | nx (env : Env)
  | rt (x : PV)
def isFresh : CE → Bool
  | .lst _ => true
  | .comp _ _ _ _ _ => true
  | .bi .list _ => true
  | .bin .mul _ _ => true
  | .bin .add _ _ => true
  | .rg1 false _ => true
  | _ => false
/-- the turns of a for -/
def forL (step : PV → Env → Strm → Option (Fl × Strm)) : List PV → Env → Strm → Option (Fl × Strm)
  | [], env, S => some (.nx env, S)
  | x :: xs, env, S => (step x env S).bind fun r => match r.1 with
    | .nx env' => forL step xs env' r.2
    | .rt v => some (.rt v, r.2)
def seqL (ev : CS → Env → Strm → Option (Fl × Strm)) : List CS → Env → Strm → Option (Fl × Strm)
  | [], env, S => some (.nx env, S)
  | c :: cs, env, S => (ev c env S).bind fun r => match r.1 with
    | .nx env' => seqL ev cs env' r.2
    | .rt v => some (.rt v, r.2)
def ownAt (env : Env) (i : Nat) : Option (List PV) := match env[i]? with | some (some (.own l)) => some l | _ => none
/-- one item popped -/
def popS (ev : CE → Env → Strm → Option (PV × Strm)) (e : CE) (tg i : Nat) (vs : List Nat) (env : Env) (l : List PV) (x : PV) (S : Strm) : Option ((PV × List PV) × Strm) :=
  (bindT (.nm tg) x (wipeE (env.set i (some (.own l))) vs)).bind fun e1 => (ev e e1 S).bind fun r => match r.1 with
    | .int j => if inR j then (ixN l.length j).bind fun m => (l[m]?).map fun y => ((y, l.eraseIdx m), r.2) else none
    | _ => none
def popL (step : List PV → PV → Strm → Option ((PV × List PV) × Strm)) : List PV → List PV → Strm → Option ((List PV × List PV) × Strm)
  | [], l, S => some (([], l), S)
  | x :: xs, l, S => (step l x S).bind fun r => (popL step xs r.1.2 r.2).map fun q => ((r.1.1 :: q.1.1, q.1.2), q.2)
def wrapV : List Bi → PV → Option PV
  | [], x => some x
  | b :: w, x => (wrapV w x).bind fun y => biV b [y]
section
variable (T : Tbl)
abbrev FU : Nat := 60
def evS : Nat → CS → Env → Strm → Option (Fl × Strm)
  | 0, _, _, _ => none
  | n + 1, c, env, S =>
    match c with
    | .asg t e => (evE T FU e env S).bind fun r => (bindT t r.1 env).map fun env' => (.nx env', r.2)
    | .asgO i e => if isFresh e then (evE T FU e env S).bind fun r => match r.1 with | .lst l => if i < env.length && (S.isSome || r.2.isNone) then some (.nx (env.set i (some (.own l))), r.2) else none | _ => none else none
    | .frz i => (ownAt env i).map fun l => (.nx (env.set i (some (.lst l))), S)
    | .app i e => (evE T FU e env S).bind fun r => (ownAt env i).bind fun l => if r.1.isOwn || !decide (l.length < LIM) then none else some (.nx (env.set i (some (.own (l ++ [r.1])))), r.2)
    | .setI i k e => (evE T FU e env S).bind fun r => (evE T FU k env r.2).bind fun q => (ownAt env i).bind fun l => match q.1 with
      | .int j => if r.1.isOwn then none else (ixN l.length j).map fun m => (.nx (env.set i (some (.own (l.set m r.1)))), q.2)
      | _ => none
    | .sset i j e => (evE T FU e env S).bind fun r => match env[i]?, r.1, r.2 with
      | some (some .stm), .int z, some (scr, c, k) => if j = 1 then some (.nx env, some (scr, z, k)) else if j = 2 then some (.nx env, some (scr, c, z)) else none
      | _, _, _ => none
    | .augI i k e => (evE T FU k env S).bind fun q => (ownAt env i).bind fun l => match q.1 with
      | .int j => (atI l j).bind fun old => (evE T FU e env q.2).bind fun r => match old, r.1 with
        | .int x, .int y => (ixN l.length j).map fun m => (.nx (env.set i (some (.own (l.set m (.int (x + y)))))), r.2)
        | _, _ => none
      | _ => none
    | .aug i o e => match env[i]? with
      | some (some (.int x)) => (evE T FU e env S).bind fun r => match o, r.1 with
        | .add, .int y => some (.nx (env.set i (some (.int (x + y)))), r.2)
        | .sub, .int y => some (.nx (env.set i (some (.int (x - y)))), r.2)
        | _, _ => none
      | _ => none
    | .ife d a b => (evE T FU d env S).bind fun r => r.1.tru.bind fun x => if x then seqL (fun c env S => evS n c env S) a env r.2 else seqL (fun c env S => evS n c env S) b env r.2
    | .for_ t it b => (evI T FU it env S).bind fun r => forL (fun x env S => (bindT t x env).bind fun e1 => seqL (fun c env S => evS n c env S) b e1 S) r.1 env r.2
    | .ret e => (evE T FU e env S).bind fun r => if r.1.isOwn then none else some (.rt r.1, r.2)
    | .retO i => (ownAt env i).map fun l => (.rt (.lst l), S)
    | .par i j x y => (evE T FU x env S).bind fun r => (evE T FU y env r.2).bind fun q => if r.1.isOwn || q.1.isOwn then none else some (.nx ((env.set i (some r.1)).set j (some q.1)), q.2)
    | .exp e => (evE T FU e env S).map fun r => (.nx env, r.2)
    | .drop f l e => (T.fn f).bind fun φ => (evL (fun e S => evE T FU e env S) l S).bind fun r => if r.1.length = φ.1 && r.1.all PV.flat then (φ.2 r.1 r.2).bind fun q =>
        match q.1 with
        | .ret (.lst xs) => if decide (xs.length < LIM) && (r.2.isSome || q.2.isNone) && xs.any (fun x => match x with | .tup _ => true | _ => false) then (evE T FU e env q.2).bind fun u => if r.2.isSome || u.2.isNone then some (.nx env, u.2) else none else none
        | _ => none
        else none
    | .stop => none
    | .pass => some (.nx env, S)
    | .pop t w i e tg it own => (evI T FU it env S).bind fun its => (ownAt env i).bind fun l => if decide (its.1.length ≤ LIM) then
        (popL (popS (fun e env S => evE T FU e env S) e tg i (own.map (·.2)) env) its.1 l its.2).bind fun q => (wrapV w (.lst q.1.1)).bind fun x => if x.isOwn then none else
          match t with
          | some j => some (.nx ((env.set i (some (.own q.1.2))).set j (some x)), q.2)
          | none => some (.rt x, q.2)
        else none
/-- a def's body from its arguments: n names in all -/
def evF (n : Nat) (b : List CS) : Fn := fun xs S =>
  (seqL (fun c env S => evS T FU c env S) b (xs.map some ++ List.replicate (n - xs.length) none) S).map fun r => match r.1 with
    | .nx _ => (.ret .non, r.2)
    | .rt x => (.ret x, r.2)
end
end Ws

/-! Ws3: the operations on values keep their word. -/
namespace Ws
open PySem PySem.Spec PyProof.Rows L2

/-- what a pure operation hands on -/
abbrev Fin (K : PySem.W.Frag) (R : Addr → Prop) (a : Addr) (H : Hp) (S : Strm) (z : PV) (Q : VK) : Prop :=
  ∀ u H', Keep a H H' → SRel K R a H' S → RepE K R a H' u z → Q u H'
section
variable {K : PySem.W.Frag} {R : Addr → Prop} {a : Addr} {H : Hp} {S : Strm} {z : PV} {Q : VK}
theorem fin_here (s : SRel K R a H S) {u : V} (r : RepE K R a H u z) (h : Fin K R a H S z Q) : Q u H := h u H Keep.refl s r
theorem fin_int {k : Int} (s : SRel K R a H S) (h : Fin K R a H S (.int k) Q) : Q (.int k) H := h _ _ Keep.refl s (Rep.int k).toE
theorem fin_bl {k : Bool} (s : SRel K R a H S) (h : Fin K R a H S (.bl k) Q) : Q (.bl k) H := h _ _ Keep.refl s (Rep.bl k).toE
theorem fin_ty {k : String} (s : SRel K R a H S) (h : Fin K R a H S (.ty k) Q) : Q (.ty k) H := h _ _ Keep.refl s (Rep.ty k).toE
theorem fin_lst (f : Fresh R a H) (s : SRel K R a H S) {vs : List V} {xs : List PV} (r : Reps K R a H vs xs) (h : Fin K R a H S (.lst xs) Q) : ∀ p, H p = none → Q (.ref p) (upd H p (.lst vs)) := fun p hp =>
  h _ _ (Keep.upd hp) (s.upd hp) (show Rep _ _ _ _ _ _ from .lst upd_same (f.ne hp) (f.fc p hp) (r.keep (Keep.upd hp)))
theorem fin_tup (f : Fresh R a H) (s : SRel K R a H S) {vs : List V} {xs : List PV} (r : Reps K R a H vs xs) (h : Fin K R a H S (.tup xs) Q) : ∀ p, H p = none → Q (.ref p) (upd H p (.tup vs)) := fun p hp =>
  h _ _ (Keep.upd hp) (s.upd hp) (show Rep _ _ _ _ _ _ from .tup upd_same (f.ne hp) (r.keep (Keep.upd hp)))
end
theorem LIM_le {n : Nat} (h : n ≤ LIM) : n ≤ sizeLine := by rw [sizeLine_eq]; unfold LIM at h; omega

/-! ### shapes of values -/
section
variable {K : PySem.W.Frag} {R : Addr → Prop} {a : Addr} {H : Hp} {v : V}
theorem RepE.int {i : Int} (r : RepE K R a H v (.int i)) : v = .int i := by cases (show Rep _ _ _ _ _ _ from r); rfl
theorem RepE.bl {i : Bool} (r : RepE K R a H v (.bl i)) : v = .bl i := by cases (show Rep _ _ _ _ _ _ from r); rfl
theorem RepE.non (r : RepE K R a H v .non) : v = .non := by cases (show Rep _ _ _ _ _ _ from r); rfl
theorem RepE.ty {n : String} (r : RepE K R a H v (.ty n)) : v = .ty n := by cases (show Rep _ _ _ _ _ _ from r); rfl
theorem RepE.str {n : Str} (r : RepE K R a H v (.str n)) : v = .str n := by cases (show Rep _ _ _ _ _ _ from r); rfl
theorem RepE.tup {l : List PV} (r : RepE K R a H v (.tup l)) : ∃ p vs, v = .ref p ∧ H p = some (.tup vs) ∧ p ≠ a ∧ Reps K R a H vs l := by
  cases (show Rep _ _ _ _ _ _ from r) with
  | tup h n q => exact ⟨_, _, rfl, h, n, q⟩
theorem RepE.lst {x : PV} {l : List PV} (r : RepE K R a H v x) (e : x.lst? = some l) : ∃ p vs, v = .ref p ∧ H p = some (.lst vs) ∧ Reps K R a H vs l := by
  cases x with
  | lst m =>
    simp only [PV.lst?, Option.some.injEq] at e
    subst e
    cases (show Rep _ _ _ _ _ _ from r) with
    | lst h n q t => exact ⟨_, _, rfl, h, t⟩
  | own m =>
    simp only [PV.lst?, Option.some.injEq] at e
    subst e
    obtain ⟨l, vs, e1, h, _, q⟩ := r
    exact ⟨l, vs, e1, h, q⟩
  | _ => simp [PV.lst?] at e
theorem RepE.seq {x : PV} {l : List PV} (r : RepE K R a H v x) (e : x.seq? = some l) : ∃ p vs, v = .ref p ∧ (H p = some (.lst vs) ∨ H p = some (.tup vs)) ∧ Reps K R a H vs l := by
  cases x with
  | tup m =>
    simp only [PV.seq?, Option.some.injEq] at e
    subst e
    obtain ⟨p, vs, e1, h, _, q⟩ := r.tup
    exact ⟨p, vs, e1, .inr h, q⟩
  | lst m =>
    obtain ⟨p, vs, e1, h, q⟩ := r.lst (l := l) e
    exact ⟨p, vs, e1, .inl h, q⟩
  | own m =>
    obtain ⟨p, vs, e1, h, q⟩ := r.lst (l := l) e
    exact ⟨p, vs, e1, .inl h, q⟩
  | _ => simp [PV.seq?] at e
end
theorem ints_of : ∀ {l : List PV} {ns : List Int}, ints? l = some ns → l = ns.map PV.int
  | [], ns, h => by simp [ints?] at h; subst h; rfl
  | x :: l, ns, h => by
    cases x with
    | int i =>
      simp only [ints?, Option.map_eq_some_iff] at h
      obtain ⟨ms, h1, h2⟩ := h
      subst h2
      rw [ints_of h1]; rfl
    | _ => simp [ints?] at h
theorem bls_of : ∀ {l : List PV} {ns : List Bool}, bls? l = some ns → l = ns.map PV.bl
  | [], ns, h => by simp [bls?] at h; subst h; rfl
  | x :: l, ns, h => by
    cases x with
    | bl i =>
      simp only [bls?, Option.map_eq_some_iff] at h
      obtain ⟨ms, h1, h2⟩ := h
      subst h2
      rw [bls_of h1]; rfl
    | _ => simp [bls?] at h

/-! ### truth -/
section
variable {K : PySem.W.Frag} {R : Addr → Prop} {a : Addr} {H : Hp} {v : V}
theorem Reps.empty {vs : List V} {l : List PV} (q : Reps K R a H vs l) : vs.isEmpty = l.isEmpty := by cases q <;> rfl
theorem tru_v {x : PV} {b : Bool} (r : RepE K R a H v x) (e : x.tru = some b) : TruV K v H b := by
  cases x with
  | non => rw [r.non]; simp only [PV.tru, Option.some.injEq] at e; exact e.symm
  | bl k => rw [r.bl]; simp only [PV.tru, Option.some.injEq] at e; exact e.symm
  | int k => rw [r.int]; simp only [PV.tru, Option.some.injEq] at e; exact e.symm
  | tup l =>
    obtain ⟨p, vs, rfl, h, _, q⟩ := r.tup
    simp only [PV.tru, Option.some.injEq] at e
    exact .inr (.inl ⟨vs, SqT.of h, by rw [q.empty]; exact e.symm⟩)
  | lst l =>
    obtain ⟨p, vs, rfl, h, q⟩ := r.lst (l := l) rfl
    simp only [PV.tru, Option.some.injEq] at e
    exact .inl ⟨vs, SqL.of h, by rw [q.empty]; exact e.symm⟩
  | own l =>
    obtain ⟨p, vs, rfl, h, q⟩ := r.lst (l := l) rfl
    simp only [PV.tru, Option.some.injEq] at e
    exact .inl ⟨vs, SqL.of h, by rw [q.empty]; exact e.symm⟩
  | _ => simp [PV.tru] at e
end

/-! ### + - * % // -/
def rMulL : R2 := fun x y H Q => ∃ l k xs, x = .ref l ∧ y = .int k ∧ H l = some (.lst xs) ∧ -(2 ^ 63) ≤ k ∧ k < 2 ^ 63 ∧ xs.length * k.toNat ≤ sizeLine ∧ ∀ p, H p = none → Q (.ref p) (upd H p (.lst (List.replicate k.toNat xs).flatten))
section
variable {X : Cx}
theorem bin_ok (o : BOp) : ∃ (op : Operator) (r : R2), OpR X (binaryOp op) r ∧ (match o with | .add => op = .Add | .sub => op = .Sub | .mul => op = .Mult | .mod => op = .Mod | .fdiv => op = .FloorDiv | .pow => op = .Pow) ∧
    ∀ {R : Addr → Prop} {a : Addr} {H : Hp} {S : Strm} {x y z : PV} {v w : V} {Q : VK}, Fresh R a H → SRel X.K R a H S → RepE X.K R a H v x → RepE X.K R a H w y → binV o x y = some z → Fin X.K R a H S z Q → r v w H Q := by
  cases o with
  | add =>
    refine ⟨.Add, _, op_add.or (op_catA.or op_cat), rfl, ?_⟩
    intro R a H S x y z v w Q f s rx ry e h
    cases x with
    | int i =>
      cases y with
      | int j =>
        simp only [binV, Option.some.injEq] at e
        subst e
        exact .inl ⟨i, j, rx.int, ry.int, fin_int s h⟩
      | _ => simp [binV, PV.lst?, catL] at e
    | tup l =>
      cases y with
      | tup m =>
        simp only [binV] at e
        split at e
        · rename_i hl
          simp only [Option.some.injEq] at e
          subst e
          obtain ⟨p, vs, rfl, h1, n1, q1⟩ := rx.tup
          obtain ⟨p2, ws, rfl, h2, n2, q2⟩ := ry.tup
          refine .inr (.inl ⟨p, p2, vs, ws, rfl, rfl, SqT.of h1, SqT.of h2, LIM_le (by rw [q1.length, q2.length]; exact hl), fun e => ?_, fun _ e => ?_, fun _ _ => fin_tup f s (q1.append q2) h⟩)
          · subst e; cases q1; exact fin_here s ry h
          · subst e; cases q2; rw [List.append_nil] at h; exact fin_here s rx h
        · cases e
      | _ => simp [binV, PV.lst?, catL] at e
    | lst l =>
      cases hy : y.lst? with
      | none => cases y <;> simp [binV, hy, PV.lst?, catL] at e hy
      | some m =>
        have e' : (if l.length + m.length ≤ LIM then some (PV.lst (l ++ m)) else none) = some z := by
          cases y <;> simp [binV, PV.lst?, catL] at e hy ⊢ <;> subst hy <;> exact e
        split at e'
        · rename_i hl
          simp only [Option.some.injEq] at e'
          subst e'
          obtain ⟨p, vs, rfl, h1, q1⟩ := rx.lst (l := l) rfl
          obtain ⟨p2, ws, rfl, h2, q2⟩ := ry.lst (l := m) hy
          exact .inr (.inr ⟨p, p2, vs, ws, rfl, rfl, h1, h2, LIM_le (by rw [q1.length, q2.length]; exact hl), fin_lst f s (q1.append q2) h⟩)
        · cases e'
    | own l =>
      cases hy : y.lst? with
      | none => cases y <;> simp [binV, hy, PV.lst?, catL] at e hy
      | some m =>
        have e' : (if l.length + m.length ≤ LIM then some (PV.lst (l ++ m)) else none) = some z := by
          cases y <;> simp [binV, PV.lst?, catL] at e hy ⊢ <;> subst hy <;> exact e
        split at e'
        · rename_i hl
          simp only [Option.some.injEq] at e'
          subst e'
          obtain ⟨p, vs, rfl, h1, q1⟩ := rx.lst (l := l) rfl
          obtain ⟨p2, ws, rfl, h2, q2⟩ := ry.lst (l := m) hy
          exact .inr (.inr ⟨p, p2, vs, ws, rfl, rfl, h1, h2, LIM_le (by rw [q1.length, q2.length]; exact hl), fin_lst f s (q1.append q2) h⟩)
        · cases e'
    | _ => cases y <;> simp [binV, PV.lst?, catL, repL] at e
  | sub =>
    refine ⟨.Sub, _, op_sub, rfl, ?_⟩
    intro R a H S x y z v w Q f s rx ry e h
    cases x with
    | int i =>
      cases y with
      | int j =>
        simp only [binV, Option.some.injEq] at e
        subst e
        exact ⟨i, j, rx.int, ry.int, fin_int s h⟩
      | _ => simp [binV, repL, PV.lst?] at e
    | _ => simp [binV, repL, PV.lst?] at e
  | mul =>
    refine ⟨.Mult, _, op_mul.or op_rep, rfl, ?_⟩
    intro R a H S x y z v w Q f s rx ry e h
    have lst : ∀ {l : List PV} {k : Int}, x.lst? = some l → y = .int k → (if decide (-(2 ^ 62) ≤ k) && decide (k < 2 ^ 62) && decide (l.length * k.toNat ≤ LIM) then some (PV.lst (List.replicate k.toNat l).flatten) else none) = some z → rRep v w H Q := by
      intro l k hx hy e'
      subst hy
      split at e'
      · rename_i hl
        simp only [Bool.and_eq_true, decide_eq_true_eq] at hl
        simp only [Option.some.injEq] at e'
        subst e'
        obtain ⟨p, vs, rfl, h1, q1⟩ := rx.lst hx
        obtain ⟨⟨l1, l2⟩, l3⟩ := hl
        exact ⟨p, k, vs, rfl, ry.int, h1, by omega, by omega, LIM_le (by rw [q1.length]; exact l3), fin_lst f s (q1.rep _) h⟩
      · cases e'
    cases x with
    | int i =>
      cases y with
      | int j =>
        simp only [binV] at e
        split at e
        · rename_i hl
          simp only [Option.some.injEq] at e
          subst e
          refine .inl ⟨i, j, rx.int, ry.int, ?_, fin_int s h⟩
          simp only [sml, Bool.or_eq_true, Bool.and_eq_true, decide_eq_true_eq] at hl
          exact hl
        · cases e
      | _ => simp [binV, repL, PV.lst?] at e
    | lst l =>
      cases y with
      | int k => exact .inr (lst (l := l) (k := k) rfl rfl (by simpa [binV, PV.lst?, repL] using e))
      | _ => simp [binV, repL, PV.lst?] at e
    | own l =>
      cases y with
      | int k => exact .inr (lst (l := l) (k := k) rfl rfl (by simpa [binV, PV.lst?, repL] using e))
      | _ => simp [binV, repL, PV.lst?] at e
    | _ => cases y <;> simp [binV, PV.lst?, catL, repL] at e
  | mod =>
    refine ⟨.Mod, _, op_mod, rfl, ?_⟩
    intro R a H S x y z v w Q f s rx ry e h
    cases x with
    | int i =>
      cases y with
      | int j =>
        simp only [binV] at e
        split at e
        · rename_i hl
          simp only [Option.some.injEq] at e
          subst e
          exact ⟨i, j, rx.int, ry.int, of_decide_eq_true hl, fin_int s h⟩
        · cases e
      | _ => simp [binV, repL, PV.lst?] at e
    | _ => simp [binV, repL, PV.lst?] at e
  | fdiv =>
    refine ⟨.FloorDiv, _, op_fdiv, rfl, ?_⟩
    intro R a H S x y z v w Q f s rx ry e h
    cases x with
    | int i =>
      cases y with
      | int j =>
        simp only [binV] at e
        split at e
        · rename_i hl
          simp only [Bool.and_eq_true, decide_eq_true_eq] at hl
          simp only [Option.some.injEq] at e
          subst e
          exact ⟨i, j, rx.int, ry.int, hl, fin_int s h⟩
        · cases e
      | _ => simp [binV, repL, PV.lst?] at e
    | _ => simp [binV, repL, PV.lst?] at e
  | pow =>
    refine ⟨.Pow, _, op_pow, rfl, ?_⟩
    intro R a H S x y z v w Q f s rx ry e h
    cases x with
    | int i =>
      cases y with
      | int j =>
        simp only [binV] at e
        split at e
        · rename_i hl
          simp only [Bool.and_eq_true, decide_eq_true_eq] at hl
          simp only [Option.some.injEq] at e
          subst e
          exact ⟨i, j, rx.int, ry.int, ⟨hl.1.1, by omega, hl.2⟩, fin_int s h⟩
        · cases e
      | _ => simp [binV, repL, PV.lst?] at e
    | _ => simp [binV, repL, PV.lst?] at e
end

/-! ### comparisons -/
/-- the kinds of built-in values, by name -/
theorem metaOk {n : String} (h : n = "NoneType" ∨ n = "bool" ∨ n = "int" ∨ n = "str" ∨ n = "tuple" ∨ n = "list") : ∀ s' : Shared, s'.TypeIs (.type n) "type" := by
  rcases h with rfl | rfl | rfl | rfl | rfl | rfl
  · exact PySem.TypeEq.meta_NoneType
  · exact PySem.TypeEq.meta_bool
  · exact PySem.TypeEq.meta_int
  · exact PySem.TypeEq.meta_str
  · exact PySem.TypeEq.meta_tuple
  · exact PySem.TypeEq.meta_list
theorem knownTy_or {n : String} (h : knownTy n = true) : n = "NoneType" ∨ n = "bool" ∨ n = "int" ∨ n = "str" ∨ n = "tuple" ∨ n = "list" := by
  simpa [knownTy, or_assoc] using h
/-- two built-in types -/
def rEqTy : R2 := fun x y H Q => ∃ n m, x = .ty n ∧ y = .ty m ∧ knownTy n = true ∧ knownTy m = true ∧ Q (.bl (n == m)) H
section
variable {X : Cx}
theorem op_eqTy : OpR X (compareOp .Eq) rEqTy := by
  intro pins s σ H x y v u Q I rx ry h
  obtain ⟨n, m, rfl, rfl, hn, hm, q⟩ := h
  cases rx
  cases ry
  by_cases e : n = m
  · subst e
    exact PySem.TypeEq.eq_type_same (metaOk (knownTy_or hn)) ⟨.bl _, H, I, rfl, by simpa using q⟩
  · have e2 : (n == m) = false := by simpa using e
    rw [e2] at q
    exact PySem.TypeEq.eq_type_other (metaOk (knownTy_or hn)) (metaOk (knownTy_or hm)) (by simpa using e) ⟨.bl _, H, I, rfl, q⟩
def rNeTy : R2 := fun x y H Q => ∃ n, x = .ty n ∧ y = .ty n ∧ knownTy n = true ∧ Q (.bl false) H
theorem op_neTy (hu : X.A.units + 64 < cLine) : OpR X (compareOp .NotEq) rNeTy := by
  intro pins s σ H x y v u Q I rx ry h
  obtain ⟨n, rfl, rfl, hn, q⟩ := h
  cases rx
  cases ry
  exact ne_type_same (metaOk (knownTy_or hn)) (by omega) ⟨.bl _, H, I, rfl, q⟩
end
mutual
theorem Rep.dp {K : PySem.W.Frag} {R : Addr → Prop} {a : Addr} {H : Hp} : ∀ {v : V} {x : PV} {d : PyData}, Rep K R a H v x → x.pd = some d → Dp K H v d
  | _, _, _, .non, e => by simp only [PV.pd, Option.some.injEq] at e; subst e; exact .non
  | _, _, _, .bl b, e => by simp only [PV.pd, Option.some.injEq] at e; subst e; exact .bl b
  | _, _, _, .int b, e => by simp only [PV.pd, Option.some.injEq] at e; subst e; exact .int b
  | _, _, _, .str b, e => by simp only [PV.pd, Option.some.injEq] at e; subst e; exact .str b
  | _, _, _, .ty b, e => by simp [PV.pd] at e
  | _, _, _, .stm, e => by simp [PV.pd] at e
  | _, _, _, .tup h n r, e => by
    simp only [PV.pd, Option.map_eq_some_iff] at e
    obtain ⟨ds, h1, h2⟩ := e
    subst h2
    exact .tup (SqT.of h) (Reps.dp r h1)
  | _, _, _, .lst h n q r, e => by
    simp only [PV.pd, Option.map_eq_some_iff] at e
    obtain ⟨ds, h1, h2⟩ := e
    subst h2
    exact .lst (SqL.of h) (Reps.dp r h1)
theorem Reps.dp {K : PySem.W.Frag} {R : Addr → Prop} {a : Addr} {H : Hp} : ∀ {v : List V} {x : List PV} {d : List PyData}, Reps K R a H v x → PV.pds x = some d → DpAll K H v d
  | _, _, _, .nil, e => by simp only [PV.pds, Option.some.injEq] at e; subst e; exact .nil
  | _, _, _, .cons r rs, e => by
    simp only [PV.pds, Option.bind_eq_some_iff, Option.map_eq_some_iff] at e
    obtain ⟨d, h1, ds, h2, h3⟩ := e
    subst h3
    exact .cons (Rep.dp r h1) (Reps.dp rs h2)
end
mutual
theorem Rep.ofD {K : PySem.W.Frag} {R : Addr → Prop} {a : Addr} {H : Hp} : ∀ {v : V} {x : PV} {d : PyData}, Rep K R a H v x → x.pd = some d → Ws.ofD d = x
  | _, _, _, .non, e => by simp only [PV.pd, Option.some.injEq] at e; subst e; simp [Ws.ofD]
  | _, _, _, .bl b, e => by simp only [PV.pd, Option.some.injEq] at e; subst e; simp [Ws.ofD]
  | _, _, _, .int b, e => by simp only [PV.pd, Option.some.injEq] at e; subst e; simp [Ws.ofD]
  | _, _, _, .str b, e => by simp only [PV.pd, Option.some.injEq] at e; subst e; simp [Ws.ofD]
  | _, _, _, .ty b, e => by simp [PV.pd] at e
  | _, _, _, .stm, e => by simp [PV.pd] at e
  | _, _, _, .tup h n r, e => by
    simp only [PV.pd, Option.map_eq_some_iff] at e
    obtain ⟨ds, h1, h2⟩ := e
    subst h2
    rw [Ws.ofD, Reps.ofDs r h1]
  | _, _, _, .lst h n q r, e => by
    simp only [PV.pd, Option.map_eq_some_iff] at e
    obtain ⟨ds, h1, h2⟩ := e
    subst h2
    rw [Ws.ofD, Reps.ofDs r h1]
theorem Reps.ofDs {K : PySem.W.Frag} {R : Addr → Prop} {a : Addr} {H : Hp} : ∀ {v : List V} {x : List PV} {d : List PyData}, Reps K R a H v x → PV.pds x = some d → Ws.ofDs d = x
  | _, _, _, .nil, e => by simp only [PV.pds, Option.some.injEq] at e; subst e; simp [Ws.ofDs]
  | _, _, _, .cons r rs, e => by
    simp only [PV.pds, Option.bind_eq_some_iff, Option.map_eq_some_iff] at e
    obtain ⟨d, h1, ds, h2, h3⟩ := e
    subst h3
    rw [Ws.ofDs, Rep.ofD r h1, Reps.ofDs rs h2]
end
theorem pds_get : ∀ {l : List PV} {ds : List PyData} {i : Nat} {d : PyData}, PV.pds l = some ds → ds[i]? = some d → ∃ x, l[i]? = some x ∧ x.pd = some d
  | [], _, _, _, e, h => by simp only [PV.pds, Option.some.injEq] at e; subst e; simp at h
  | x :: l, _, i, d, e, h => by
    simp only [PV.pds, Option.bind_eq_some_iff, Option.map_eq_some_iff] at e
    obtain ⟨d0, h1, ds, h2, h3⟩ := e
    subst h3
    cases i with
    | zero => simp at h; subst h; exact ⟨x, rfl, h1⟩
    | succ i => exact pds_get (l := l) h2 (by simpa using h)
theorem RepE.dp {K : PySem.W.Frag} {R : Addr → Prop} {a : Addr} {H : Hp} {v : V} {x : PV} {d : PyData} (r : RepE K R a H v x) (e : x.pd = some d) : Dp K H v d := by
  cases x with
  | own l =>
    simp only [PV.pd, Option.map_eq_some_iff] at e
    obtain ⟨ds, h1, h2⟩ := e
    subst h2
    obtain ⟨p, vs, rfl, h, n, q⟩ := r
    exact .lst (SqL.of h) (q.dp h1)
  | _ => exact Rep.dp r e
theorem Rep.flat1 {K : PySem.W.Frag} {R : Addr → Prop} {a : Addr} {H : Hp} {v : V} {x : PV} (r : Rep K R a H v x) (h : x.flat1 = true) : flatV v = true := by
  cases r <;> first | rfl | (simp [PV.flat1] at h)
theorem Reps.flat1 {K : PySem.W.Frag} {R : Addr → Prop} {a : Addr} {H : Hp} : ∀ {vs : List V} {xs : List PV}, Reps K R a H vs xs → xs.all PV.flat1 = true → vs.all flatV = true
  | _, _, .nil, _ => rfl
  | _, _, .cons r t, h => by
    rw [List.all_cons, Bool.and_eq_true] at h
    rw [List.all_cons, r.flat1 h.1, Reps.flat1 t h.2]; rfl
theorem eqF_of {K : PySem.W.Frag} {R : Addr → Prop} {a : Addr} {H : Hp} {v w : V} {x y : PV} (r : Rep K R a H v x) (q : Rep K R a H w y) (h : x.flat1 = true) (h' : y.flat1 = true) : L2.eqV v w = eqF x y := by
  cases r <;> first | (cases q <;> first | rfl | (simp [PV.flat1] at h')) | (simp [PV.flat1] at h)
theorem inV_of {K : PySem.W.Frag} {R : Addr → Prop} {a : Addr} {H : Hp} {v : V} {x : PV} (r : Rep K R a H v x) (h : x.flat1 = true) : ∀ {vs : List V} {xs : List PV}, Reps K R a H vs xs → xs.all PV.flat1 = true → inV v vs = xs.any fun y => eqF y x
  | _, _, .nil, _ => rfl
  | _, _, .cons q t, h' => by
    rw [List.all_cons, Bool.and_eq_true] at h'
    have ih := inV_of r h t h'.2
    unfold inV at ih ⊢
    rw [List.any_cons, List.any_cons, ih, eqF_of q r h'.1 h]
def cOp : COp → CmpOp
  | .eq => .Eq | .ne => .NotEq | .lt => .Lt | .le => .LtE | .gt => .Gt | .ge => .GtE | .isN => .Is | .isNN => .IsNot | .mem => .In | .nmem => .NotIn | .isB => .Is | .isNB => .IsNot
section
variable {X : Cx}
theorem memD_of {x : PV} {l : List PV} {b : Bool} (h : memD x l = some b) : ∃ d ds, x.pd = some d ∧ PV.pds l = some ds ∧ SeqAt.shaped d = true ∧ PyData.canLayAll0 ds = true ∧ (ds.any fun z => PyData.eqv z d) = b := by
  unfold memD at h
  split at h
  · rename_i d ds h1 h2
    split at h
    · rename_i hs
      rw [Bool.and_eq_true] at hs
      exact ⟨d, ds, h1, h2, hs.1, hs.2, Option.some.inj h⟩
    · cases h
  · cases h
theorem cmp_ok (hr : Room 0 X.A) (o : COp) : ∃ r : R2, OpR X (compareOp (cOp o)) r ∧
    ∀ {R : Addr → Prop} {a : Addr} {H : Hp} {S : Strm} {x y : PV} {b : Bool} {v w : V} {Q : VK}, SRel X.K R a H S → RepE X.K R a H v x → RepE X.K R a H w y → cmpV o x y = some b → Q (.bl b) H → r v w H Q := by
  have hu : X.A.units + 64 < cLine := by have := hr.un; omega
  have hu5 : X.A.units + 65 < cLine := by have := hr.un; omega
  cases o with
  | eq =>
    refine ⟨_, op_eq.or ((op_eqD hu).or op_eqTy), ?_⟩
    intro R a H S x y b v w Q s rx ry e h
    have gen : eqD x y = some b → rEq v w H Q ∨ rEqD X.K v w H Q ∨ rEqTy v w H Q := fun e => by
      unfold eqD at e
      split at e
      · rename_i d d' h1 h2
        split at e
        · rename_i hs
          rw [Bool.and_eq_true] at hs
          simp only [Option.some.injEq] at e
          subst e
          exact .inr (.inl ⟨d, d', rx.dp h1, ry.dp h2, hs.1, hs.2, h⟩)
        · cases e
      · cases e
    simp only [cmpV] at e
    cases x with
    | int i =>
      cases y with
      | int j =>
        simp only [eqP, Option.some.injEq] at e
        subst e
        refine .inl ⟨by rw [rx.int, ry.int]; rfl, ?_⟩
        rw [rx.int, ry.int]
        have : decide (V.int i = V.int j) = decide (i = j) := by simp
        rw [this]; exact h
      | _ => exact gen (by simpa [eqP] using e)
    | ty n =>
      cases y with
      | ty m =>
        simp only [eqP] at e
        split at e
        · rename_i hk
          rw [Bool.and_eq_true] at hk
          simp only [Option.some.injEq] at e
          subst e
          exact .inr (.inr ⟨n, m, rx.ty, ry.ty, hk.1, hk.2, h⟩)
        · cases e
      | _ => exact gen (by simpa [eqP] using e)
    | _ => exact gen (by cases y <;> simpa [eqP] using e)
  | ne =>
    refine ⟨_, (op_ne.or (op_neD hu)).or (op_neTy hu), ?_⟩
    intro R a H S x y b v w Q s rx ry e h
    have gen : (eqD x y).map (!·) = some b → (rNe v w H Q ∨ rNeD X.K v w H Q) ∨ rNeTy v w H Q := fun e => by
      unfold eqD at e
      split at e
      · rename_i d d' h1 h2
        split at e
        · rename_i hs
          rw [Bool.and_eq_true] at hs
          simp only [Option.map_some, Option.some.injEq] at e
          subst e
          exact .inl (.inr ⟨d, d', rx.dp h1, ry.dp h2, hs.1, hs.2, h⟩)
        · cases e
      · cases e
    simp only [cmpV] at e
    cases x with
    | int i =>
      cases y with
      | int j =>
        simp only [neP, eqP, Option.map_some, Option.some.injEq] at e
        subst e
        refine .inl <| .inl ⟨by rw [rx.int, ry.int]; rfl, ?_⟩
        rw [rx.int, ry.int]
        have : decide (V.int i = V.int j) = decide (i = j) := by simp
        rw [this]; exact h
      | _ => exact gen (by simpa [neP, eqP] using e)
    | ty n =>
      cases y with
      | ty m =>
        simp only [neP] at e
        split at e
        case isFalse => cases e
        rename_i hk
        rw [Bool.and_eq_true, beq_iff_eq] at hk
        obtain ⟨hk, rfl⟩ := hk
        simp only [Option.some.injEq] at e
        subst e
        have e1 : v = .ty n := by cases rx; rfl
        have e2 : w = .ty n := by cases ry; rfl
        exact .inr ⟨n, e1, e2, hk, h⟩
      | _ => exact gen (by simpa [neP, eqP] using e)
    | _ => exact gen (by cases y <;> simpa [neP, eqP] using e)
  | lt =>
    refine ⟨_, op_lt.or (op_ltD hu), ?_⟩
    intro R a H S x y b v w Q s rx ry e h
    have gen : ltD x y = some b → rI0 (fun i j => .bl (decide (i < j))) v w H Q ∨ rLtD X.K v w H Q := fun e => by
      unfold ltD at e
      split at e
      · rename_i d d' h1 h2
        split at e
        · rename_i hs
          simp only [Bool.and_eq_true, decide_eq_true_eq] at hs
          simp only [Option.some.injEq] at e
          subst e
          exact .inr ⟨d, d', rx.dp h1, ry.dp h2, hs.1.1, fun z => (by subst z; simp [notNone] at hs), hs.2, h⟩
        · cases e
      · cases e
    simp only [cmpV] at e
    cases x with
    | int i =>
      cases y with
      | int j =>
        simp only [Option.some.injEq] at e
        subst e
        exact .inl ⟨_, _, rx.int, ry.int, h⟩
      | _ => exact gen (by simpa using e)
    | _ => exact gen (by cases y <;> simpa using e)
  | le =>
    refine ⟨_, op_le, ?_⟩
    intro R a H S x y b v w Q s rx ry e h
    cases x <;> first | (simp [cmpV] at e; done) | (cases y <;> first | (simp [cmpV] at e; done) | (simp only [cmpV, Option.some.injEq] at e; subst e; exact ⟨_, _, rx.int, ry.int, h⟩))
  | gt =>
    refine ⟨_, op_gt, ?_⟩
    intro R a H S x y b v w Q s rx ry e h
    cases x <;> first | (simp [cmpV] at e; done) | (cases y <;> first | (simp [cmpV] at e; done) | (simp only [cmpV, Option.some.injEq] at e; subst e; exact ⟨_, _, rx.int, ry.int, h⟩))
  | ge =>
    refine ⟨_, op_ge, ?_⟩
    intro R a H S x y b v w Q s rx ry e h
    cases x <;> first | (simp [cmpV] at e; done) | (cases y <;> first | (simp [cmpV] at e; done) | (simp only [cmpV, Option.some.injEq] at e; subst e; exact ⟨_, _, rx.int, ry.int, h⟩))
  | isN =>
    refine ⟨_, op_isN, ?_⟩
    intro R a H S x y b v w Q s rx ry e h
    cases y <;> first | (simp [cmpV] at e; done) | skip
    refine ⟨ry.non, ?_⟩
    have : decide (v = V.non) = b := by
      simp only [cmpV, Option.some.injEq] at e
      subst e
      cases x with
      | own l => obtain ⟨p, vs, rfl, _⟩ := rx; rfl
      | _ => cases (show Rep _ _ _ _ _ _ from rx) <;> rfl
    rw [this]; exact h
  | isNN =>
    refine ⟨_, op_notN, ?_⟩
    intro R a H S x y b v w Q s rx ry e h
    cases y <;> first | (simp [cmpV] at e; done) | skip
    refine ⟨ry.non, ?_⟩
    have : (!decide (v = V.non)) = b := by
      simp only [cmpV, Option.some.injEq] at e
      subst e
      cases x with
      | own l => obtain ⟨p, vs, rfl, _⟩ := rx; rfl
      | _ => cases (show Rep _ _ _ _ _ _ from rx) <;> rfl
    rw [this]; exact h
  | isB =>
    refine ⟨_, op_isBl, ?_⟩
    intro R a H S x y b v w Q s rx ry e h
    cases x <;> first | (simp [cmpV] at e; done) | (cases y <;> first | (simp [cmpV] at e; done) | (simp only [cmpV, Option.some.injEq] at e; subst e; exact ⟨_, _, rx.bl, ry.bl, h⟩))
  | isNB =>
    refine ⟨_, op_notBl, ?_⟩
    intro R a H S x y b v w Q s rx ry e h
    cases x <;> first | (simp [cmpV] at e; done) | (cases y <;> first | (simp [cmpV] at e; done) | (simp only [cmpV, Option.some.injEq] at e; subst e; exact ⟨_, _, rx.bl, ry.bl, h⟩))
  | mem =>
    refine ⟨_, op_in_seq.or (op_inDT hu5), ?_⟩
    intro R a H S x y b v w Q s rx ry e h
    simp only [cmpV, Option.bind_eq_some_iff] at e
    obtain ⟨l, h1, h2⟩ := e
    unfold memV at h2
    split at h2
    · rename_i hf
      rw [Bool.and_eq_true] at hf
      simp only [Option.some.injEq] at h2
      obtain ⟨p, vs, rfl, hp, q⟩ := ry.seq h1
      have rx' : Rep X.K R a H v x := rx.rep (by cases x <;> first | rfl | simp [PV.flat1] at hf)
      refine .inl ⟨p, vs, rfl, hp.elim (fun z => .inl (SqL.of z)) (fun z => .inr (SqT.of z)), rx'.flat1 hf.1, q.flat1 hf.2, ?_⟩
      rw [if_neg (by decide), inV_of rx' hf.1 q hf.2, h2]
      exact h
    · obtain ⟨d, ds, e1, e2, e3, e4, e5⟩ := memD_of h2
      subst e5
      obtain ⟨p, vs, rfl, hp, q⟩ := ry.seq h1
      exact .inr ⟨d, ds, rx.dp e1, hp.elim (fun z => .inl (.lst (SqL.of z) (q.dp e2))) (fun z => .inr (.tup (SqT.of z) (q.dp e2))), e3, e4, h⟩
  | nmem =>
    refine ⟨_, op_notIn_seq.or (op_niDT hu5), ?_⟩
    intro R a H S x y b v w Q s rx ry e h
    simp only [cmpV, Option.map_eq_some_iff, Option.bind_eq_some_iff] at e
    obtain ⟨c, ⟨l, h1, h2⟩, h3⟩ := e
    unfold memV at h2
    split at h2
    · rename_i hf
      rw [Bool.and_eq_true] at hf
      simp only [Option.some.injEq] at h2
      obtain ⟨p, vs, rfl, hp, q⟩ := ry.seq h1
      have rx' : Rep X.K R a H v x := rx.rep (by cases x <;> first | rfl | simp [PV.flat1] at hf)
      refine .inl ⟨p, vs, rfl, hp.elim (fun z => .inl (SqL.of z)) (fun z => .inr (SqT.of z)), rx'.flat1 hf.1, q.flat1 hf.2, ?_⟩
      rw [if_pos rfl, inV_of rx' hf.1 q hf.2, h2, h3]
      exact h
    · obtain ⟨d, ds, e1, e2, e3, e4, e5⟩ := memD_of h2
      subst e5
      subst h3
      obtain ⟨p, vs, rfl, hp, q⟩ := ry.seq h1
      exact .inr ⟨d, ds, rx.dp e1, hp.elim (fun z => .inl (.lst (SqL.of z) (q.dp e2))) (fun z => .inr (.tup (SqT.of z) (q.dp e2))), e3, e4, h⟩
end
end Ws

/-! Ws4: the built-ins keep their word; the check that a text in short is the text. -/
namespace Ws
open PySem PySem.Spec PyProof.Rows L2

def biName : Bi → Str
  | .len => "len" | .all => "all" | .any => "any" | .sum => "sum" | .list => "list" | .tuple => "tuple" | .sorted => "sorted" | .min2 => "min" | .max2 => "max" | .min1 => "min" | .max1 => "max" | .mind => "min" | .abs => "abs" | .int => "int" | .type => "type" | .isi => "isinstance"
def biVal : Bi → Value
  | .len => .builtin "len" | .all => .builtin "all" | .any => .builtin "any" | .sum => .builtin "sum" | .list => .type "list" | .tuple => .type "tuple" | .sorted => .builtin "sorted" | .min2 => .builtin "min" | .max2 => .builtin "max" | .min1 => .builtin "min" | .max1 => .builtin "max" | .mind => .builtin "min" | .abs => .builtin "abs" | .int => .type "int" | .type => .type "type" | .isi => .builtin "isinstance"
theorem biBoot (b : Bi) : bootBuiltins (biName b) = some (biVal b) := by cases b <;> decide +kernel
theorem biN (b : Bi) : biName b ≠ "__name__" := by cases b <;> decide
theorem biD (b : Bi) : (biName b == ("__debug__" : Str)) = false := by cases b <;> decide

section
variable {X : Cx}
/-- type(x) -/
def rTy6 : List V → Hp → VK → Prop := fun xs H Q => ∃ (x : V) (T : String), xs = [x] ∧ (x = .non ∧ T = "NoneType" ∨ (∃ b, x = .bl b) ∧ T = "bool" ∨ (∃ b, x = .int b) ∧ T = "int" ∨ (∃ b, x = .str b) ∧ T = "str" ∨
  (∃ p xs, x = .ref p ∧ H p = some (.lst xs)) ∧ T = "list" ∨ (∃ p xs, x = .ref p ∧ H p = some (.tup xs)) ∧ T = "tuple") ∧ Q (.ty T) H
theorem call_type6 : CallR X (.type "type") rTy6 := by
  intro pins s σ H xs us Q I r h
  obtain ⟨x, T, rfl, t, q⟩ := h
  obtain ⟨u, rfl, rx⟩ := vals1 r
  rcases t with ⟨rfl, rfl⟩ | ⟨⟨b, rfl⟩, rfl⟩ | ⟨⟨b, rfl⟩, rfl⟩ | ⟨⟨b, rfl⟩, rfl⟩ | ⟨⟨p, xs, rfl, e⟩, rfl⟩ | ⟨⟨p, xs, rfl, e⟩, rfl⟩
  · cases rx
    exact call_type_of (Tx := "NoneType") rfl (by decide +kernel) ⟨.ty _, H, I, rfl, q⟩
  · cases rx
    exact call_type_of (Tx := "bool") rfl (by decide +kernel) ⟨.ty _, H, I, rfl, q⟩
  · obtain ⟨t, rfl⟩ := rx
    exact call_type_of (Tx := "int") rfl (by decide +kernel) ⟨.ty _, H, I, rfl, q⟩
  · obtain ⟨t, rfl⟩ := rx
    exact call_type_of (Tx := "str") rfl (by decide +kernel) ⟨.ty _, H, I, rfl, q⟩
  · cases rx
    obtain ⟨its, rv, p, _⟩ := I.list (.inl (.inl e))
    exact call_type_of p.isList.typeIs (by decide +kernel) ⟨.ty _, H, I, rfl, q⟩
  · cases rx
    obtain ⟨its, rv, p, _⟩ := I.tuple (.inl (.inl e))
    exact call_type_of p.typeIs (by decide +kernel) ⟨.ty _, H, I, rfl, q⟩
theorem tyOf_v {R : Addr → Prop} {a : Addr} {H : Hp} {v : V} {x : PV} {n : String} (r : RepE X.K R a H v x) (e : tyName x = some n) : TyOf X.K H v (.type n) := by
  cases x with
  | non => simp only [tyName, Option.some.injEq] at e; subst e; rw [r.non]; exact .non
  | bl b => simp only [tyName, Option.some.injEq] at e; subst e; rw [r.bl]; exact .bl b
  | int b => simp only [tyName, Option.some.injEq] at e; subst e; rw [r.int]; exact .int b
  | str b => simp only [tyName, Option.some.injEq] at e; subst e; rw [r.str]; exact .str b
  | tup l => simp only [tyName, Option.some.injEq] at e; subst e; obtain ⟨p, vs, rfl, h, _⟩ := r.tup; exact .tup h
  | lst l => simp only [tyName, Option.some.injEq] at e; subst e; obtain ⟨p, vs, rfl, h, _⟩ := r.lst (l := l) rfl; exact .lst h
  | own l => simp only [tyName, Option.some.injEq] at e; subst e; obtain ⟨p, vs, rfl, h, _⟩ := r.lst (l := l) rfl; exact .lst h
  | _ => simp [tyName] at e
theorem ty6_of {R : Addr → Prop} {a : Addr} {H : Hp} {v : V} {x : PV} {n : String} (r : RepE X.K R a H v x) (e : tyName x = some n) : (v = .non ∧ n = "NoneType" ∨ (∃ b, v = .bl b) ∧ n = "bool" ∨ (∃ b, v = .int b) ∧ n = "int" ∨ (∃ b, v = .str b) ∧ n = "str" ∨
  (∃ p xs, v = .ref p ∧ H p = some (.lst xs)) ∧ n = "list" ∨ (∃ p xs, v = .ref p ∧ H p = some (.tup xs)) ∧ n = "tuple") := by
  cases x with
  | non => simp only [tyName, Option.some.injEq] at e; exact .inl ⟨r.non, e.symm⟩
  | bl b => simp only [tyName, Option.some.injEq] at e; exact .inr (.inl ⟨⟨b, r.bl⟩, e.symm⟩)
  | int b => simp only [tyName, Option.some.injEq] at e; exact .inr (.inr (.inl ⟨⟨b, r.int⟩, e.symm⟩))
  | str b => simp only [tyName, Option.some.injEq] at e; exact .inr (.inr (.inr (.inl ⟨⟨b, r.str⟩, e.symm⟩)))
  | tup l => simp only [tyName, Option.some.injEq] at e; obtain ⟨p, vs, q, h, _⟩ := r.tup; exact .inr (.inr (.inr (.inr (.inr ⟨⟨p, vs, q, h⟩, e.symm⟩))))
  | lst l => simp only [tyName, Option.some.injEq] at e; obtain ⟨p, vs, q, h, _⟩ := r.lst (l := l) rfl; exact .inr (.inr (.inr (.inr (.inl ⟨⟨p, vs, q, h⟩, e.symm⟩))))
  | own l => simp only [tyName, Option.some.injEq] at e; obtain ⟨p, vs, q, h, _⟩ := r.lst (l := l) rfl; exact .inr (.inr (.inr (.inr (.inl ⟨⟨p, vs, q, h⟩, e.symm⟩))))
  | _ => simp [tyName] at e
inductive RepsE (K : PySem.W.Frag) (R : Addr → Prop) (a : Addr) (H : Hp) : List V → List PV → Prop where
  | nil : RepsE K R a H [] []
  | cons {v : V} {x : PV} {vs : List V} {xs : List PV} : RepE K R a H v x → RepsE K R a H vs xs → RepsE K R a H (v :: vs) (x :: xs)
theorem PV.pds_len : ∀ {l : List PV} {ds : List PyData}, PV.pds l = some ds → ds.length = l.length
  | [], _, e => by simp only [PV.pds, Option.some.injEq] at e; subst e; rfl
  | x :: xs, _, e => by
    simp only [PV.pds, Option.bind_eq_some_iff, Option.map_eq_some_iff] at e
    obtain ⟨d, _, es, h, rfl⟩ := e
    rw [List.length_cons, List.length_cons, PV.pds_len h]
theorem Reps.zip3 {K : PySem.W.Frag} {R : Addr → Prop} {a : Addr} {H : Hp} : ∀ {vs : List V} {xs : List PV} {ds : List PyData}, Reps K R a H vs xs → PV.pds xs = some ds → ∀ t ∈ vs.zip (xs.zip ds), Rep K R a H t.1 t.2.1 ∧ t.2.1.pd = some t.2.2
  | _, _, _, .nil, _, t, m => by simp at m
  | _, _, _, .cons r rs, e, t, m => by
    simp only [PV.pds, Option.bind_eq_some_iff, Option.map_eq_some_iff] at e
    obtain ⟨d, h1, es, h2, rfl⟩ := e
    rcases List.mem_cons.mp (show t ∈ (_, _, d) :: _ from m) with q | q
    · subst q; exact ⟨r, h1⟩
    · exact Reps.zip3 rs h2 t q
theorem Reps.of_all {K : PySem.W.Frag} {R : Addr → Prop} {a : Addr} {H : Hp} : ∀ {l : List (V × PV × PyData)}, (∀ t ∈ l, Rep K R a H t.1 t.2.1) → Reps K R a H (l.map (·.1)) (l.map (·.2.1))
  | [], _ => .nil
  | t :: l, h => .cons (h t List.mem_cons_self) (Reps.of_all fun u hu => h u (List.mem_cons_of_mem _ hu))
theorem srt_of {K : PySem.W.Frag} {R : Addr → Prop} {a : Addr} {H : Hp} {vs : List V} {xs ys : List PV} (r : Reps K R a H vs xs) (e : srtV xs = some ys) :
    ∃ bs : List (V × PyData), bs.map (·.1) = vs ∧ (∀ b ∈ bs, Dp K H b.1 b.2) ∧ PySem.W.AllAlike (bs.map (·.2)) ∧ SortT (bs.map (·.2)) ∧ (∀ b ∈ bs, b.2.depth ≤ 60) ∧ Reps K R a H ((bs.mergeSort (PySem.W.dataLe false (·.2))).map (·.1)) ys := by
  unfold srtV at e
  obtain ⟨ds, hp, e⟩ := Option.bind_eq_some_iff.mp e
  split at e
  · rename_i c
    simp only [Bool.and_eq_true] at c
    obtain ⟨⟨c1, c2⟩, c3⟩ := c
    have l1 := r.length
    have l2 := PV.pds_len hp
    have t0 := r.zip3 hp
    have m1 : (vs.zip (xs.zip ds)).map (fun t => (t.1, t.2.2)) = vs.zip ds := by
      have : ∀ (vs : List V) (xs : List PV) (ds : List PyData), vs.length = xs.length → ds.length = xs.length → (vs.zip (xs.zip ds)).map (fun t => (t.1, t.2.2)) = vs.zip ds := by
        intro vs
        induction vs with
        | nil => intro xs ds _ _; rfl
        | cons v vs ih =>
          intro xs ds h1 h2
          cases xs with
          | nil => simp at h1
          | cons x xs =>
            cases ds with
            | nil => simp at h2
            | cons d ds => simp only [List.zip_cons_cons, List.map_cons]; rw [ih xs ds (by simpa using h1) (by simpa using h2)]
      exact this vs xs ds l1 l2
    have m2 : (vs.zip (xs.zip ds)).map (fun t => t.2) = xs.zip ds := List.map_snd_zip (by rw [List.length_zip]; omega)
    have ms : (vs.zip ds).map (·.2) = ds := List.map_snd_zip (by omega)
    refine ⟨vs.zip ds, List.map_fst_zip (by omega), ?_, ?_, ?_, ?_, ?_⟩
    · intro b hb
      rw [← m1] at hb
      obtain ⟨t, ht, rfl⟩ := List.mem_map.mp hb
      exact (t0 t ht).1.dp (t0 t ht).2
    · rw [ms]
      intro d hd d' hd'
      exact List.all_eq_true.mp (List.all_eq_true.mp c1 d hd) d' hd'
    · rw [ms]
      rcases Bool.or_eq_true_iff.mp c2 with c2 | c2
      · refine .inr ?_
        intro d hd
        have q := List.all_eq_true.mp c2 d hd
        unfold isTup1 at q
        split at q
        · exact ⟨_, rfl⟩
        · cases q
      · refine .inl (.inr ?_)
        intro d hd
        have q := List.all_eq_true.mp c2 d hd
        constructor
        · intro z; subst z; simp [isOt] at q
        · intro xs z; subst z; simp [isOt] at q
    · intro b hb
      have : b.2 ∈ ds := by rw [← ms]; exact List.mem_map_of_mem hb
      exact of_decide_eq_true (List.all_eq_true.mp c3 _ this)
    · simp only [Option.some.injEq] at e
      subst e
      have tl : PySem.W.TotalLe srtLe := PySem.W.sortLe_total (PyProof.Rows.listOrd PyProof.Rows.itemOrd) false fun b : PV × PyData => PySem.W.keyToks b.2
      rw [isort_eq tl, ← m2, ← m1]
      rw [← PySem.W.sort_maps (r := fun p q : V × PV × PyData => !PySem.W.dataLt q.2.2 p.2.2) (s := PySem.W.dataLe false (·.2)) (fun t : V × PV × PyData => (t.1, t.2.2)) (fun _ _ _ _ => rfl),
        ← PySem.W.sort_maps (r := fun p q : V × PV × PyData => !PySem.W.dataLt q.2.2 p.2.2) (s := srtLe) (fun t : V × PV × PyData => t.2) (fun _ _ _ _ => rfl), List.map_map, List.map_map]
      exact Reps.of_all fun t ht => (t0 t (List.mem_mergeSort.mp ht)).1
  · cases e
theorem foldl_min : ∀ (l : List Int) (x : Int), (l.foldl (fun a b => if b < a then b else a) x = x ∨ l.foldl (fun a b => if b < a then b else a) x ∈ l) ∧ l.foldl (fun a b => if b < a then b else a) x ≤ x ∧ ∀ y ∈ l, l.foldl (fun a b => if b < a then b else a) x ≤ y
  | [], x => ⟨.inl rfl, Int.le_refl _, fun _ h => by simp at h⟩
  | z :: l, x => by
    obtain ⟨h1, h2, h3⟩ := foldl_min l (if z < x then z else x)
    rw [List.foldl_cons]
    by_cases hz : z < x
    · rw [if_pos hz] at h1 h2 h3 ⊢
      refine ⟨.inr (h1.elim (fun e => by rw [e]; exact List.mem_cons_self) fun m => List.mem_cons_of_mem _ m), by omega, fun y hy => ?_⟩
      rcases List.mem_cons.mp hy with rfl | hy
      · exact h2
      · exact h3 y hy
    · rw [if_neg hz] at h1 h2 h3 ⊢
      refine ⟨h1.imp id fun m => List.mem_cons_of_mem _ m, h2, fun y hy => ?_⟩
      rcases List.mem_cons.mp hy with rfl | hy
      · omega
      · exact h3 y hy
theorem foldl_max : ∀ (l : List Int) (x : Int), (l.foldl (fun a b => if a < b then b else a) x = x ∨ l.foldl (fun a b => if a < b then b else a) x ∈ l) ∧ x ≤ l.foldl (fun a b => if a < b then b else a) x ∧ ∀ y ∈ l, y ≤ l.foldl (fun a b => if a < b then b else a) x
  | [], x => ⟨.inl rfl, Int.le_refl _, fun _ h => by simp at h⟩
  | z :: l, x => by
    obtain ⟨h1, h2, h3⟩ := foldl_max l (if x < z then z else x)
    rw [List.foldl_cons]
    by_cases hz : x < z
    · rw [if_pos hz] at h1 h2 h3 ⊢
      refine ⟨.inr (h1.elim (fun e => by rw [e]; exact List.mem_cons_self) fun m => List.mem_cons_of_mem _ m), by omega, fun y hy => ?_⟩
      rcases List.mem_cons.mp hy with rfl | hy
      · exact h2
      · exact h3 y hy
    · rw [if_neg hz] at h1 h2 h3 ⊢
      refine ⟨h1.imp id fun m => List.mem_cons_of_mem _ m, h2, fun y hy => ?_⟩
      rcases List.mem_cons.mp hy with rfl | hy
      · omega
      · exact h3 y hy
theorem minL_spec {l : List Int} {m : Int} (h : minL l = some m) : 0 < l.length ∧ m ∈ l ∧ ∀ y ∈ l, m ≤ y := by
  cases l with
  | nil => cases h
  | cons x l =>
    simp only [minL, Option.some.injEq] at h
    obtain ⟨h1, h2, h3⟩ := foldl_min l x
    rw [h] at h1 h2 h3
    refine ⟨by simp, ?_, fun y hy => ?_⟩
    · rcases h1 with e | e
      · rw [e]; exact List.mem_cons_self
      · exact List.mem_cons_of_mem _ e
    · rcases List.mem_cons.mp hy with rfl | hy
      · exact h2
      · exact h3 y hy
theorem maxL_spec {l : List Int} {m : Int} (h : maxL l = some m) : 0 < l.length ∧ m ∈ l ∧ ∀ y ∈ l, y ≤ m := by
  cases l with
  | nil => cases h
  | cons x l =>
    simp only [maxL, Option.some.injEq] at h
    obtain ⟨h1, h2, h3⟩ := foldl_max l x
    rw [h] at h1 h2 h3
    refine ⟨by simp, ?_, fun y hy => ?_⟩
    · rcases h1 with e | e
      · rw [e]; exact List.mem_cons_self
      · exact List.mem_cons_of_mem _ e
    · rcases List.mem_cons.mp hy with rfl | hy
      · exact h2
      · exact h3 y hy
theorem bi_ok (hr : Room 0 X.A) (hc : X.calm = true) (b : Bi) : ∃ r : List V → Hp → VK → Prop, CallR X (biVal b) r ∧
    ∀ {R : Addr → Prop} {a : Addr} {H : Hp} {S : Strm} {xs : List PV} {z : PV} {vs : List V} {Q : VK}, Fresh R a H → SRel X.K R a H S → RepsE X.K R a H vs xs → biV b xs = some z → Fin X.K R a H S z Q → r vs H Q := by
  cases b with
  | len =>
    refine ⟨_, call_len_seq, ?_⟩
    intro R a H S xs z vs Q f s r e h
    cases r with
    | nil => simp [biV] at e
    | cons r rs =>
      cases rs with
      | cons _ _ => simp [biV] at e
      | nil =>
        simp only [biV, Option.map_eq_some_iff] at e
        obtain ⟨l, h1, h2⟩ := e
        subst h2
        obtain ⟨p, ws, rfl, hp, q⟩ := r.seq h1
        refine ⟨p, ws, rfl, hp.elim (fun z => .inl (SqL.of z)) (fun z => .inr (SqT.of z)), ?_⟩
        rw [q.length]
        exact fin_int s h
  | all =>
    refine ⟨_, cr_all hc, ?_⟩
    intro R a H S xs z vs Q f s r e h
    cases r with
    | nil => simp [biV] at e
    | cons r rs =>
      cases rs with
      | cons _ _ => simp [biV] at e
      | nil =>
        simp only [biV, Option.map_eq_some_iff, Option.bind_eq_some_iff] at e
        obtain ⟨l, ⟨l0, h0, h1⟩, h2⟩ := e
        subst h2
        have hb := bls_of h1
        subst hb
        obtain ⟨p, ws, rfl, hp, q⟩ := r.lst h0
        have hw := q.bls
        subst hw
        exact ⟨p, l, rfl, SqL.of hp, fin_bl s h⟩
  | any =>
    refine ⟨_, cr_any hc, ?_⟩
    intro R a H S xs z vs Q f s r e h
    cases r with
    | nil => simp [biV] at e
    | cons r rs =>
      cases rs with
      | cons _ _ => simp [biV] at e
      | nil =>
        simp only [biV, Option.map_eq_some_iff, Option.bind_eq_some_iff] at e
        obtain ⟨l, ⟨l0, h0, h1⟩, h2⟩ := e
        subst h2
        have hb := bls_of h1
        subst hb
        obtain ⟨p, ws, rfl, hp, q⟩ := r.lst h0
        have hw := q.bls
        subst hw
        exact ⟨p, l, rfl, SqL.of hp, fin_bl s h⟩
  | sum =>
    refine ⟨_, cr_sum hc, ?_⟩
    intro R a H S xs z vs Q f s r e h
    cases r with
    | nil => simp [biV] at e
    | cons r rs =>
      cases rs with
      | cons _ _ => simp [biV] at e
      | nil =>
        simp only [biV, Option.map_eq_some_iff, Option.bind_eq_some_iff] at e
        obtain ⟨l, ⟨l0, h0, h1⟩, h2⟩ := e
        subst h2
        have hb := ints_of h1
        subst hb
        obtain ⟨p, ws, rfl, hp, q⟩ := r.lst h0
        have hw := q.ints
        subst hw
        exact ⟨p, l, rfl, SqL.of hp, fin_int s h⟩
  | list =>
    refine ⟨_, call_list_of, ?_⟩
    intro R a H S xs z vs Q f s r e h
    cases r with
    | nil => simp [biV] at e
    | cons r rs =>
      cases rs with
      | cons _ _ => simp [biV] at e
      | nil =>
        simp only [biV, Option.map_eq_some_iff] at e
        obtain ⟨l, h1, h2⟩ := e
        subst h2
        obtain ⟨p, ws, rfl, hp, q⟩ := r.seq h1
        exact ⟨p, ws, rfl, hp.elim (fun z => .inl (SqL.of z)) (fun z => .inr (SqT.of z)), fin_lst f s q h⟩
  | tuple =>
    refine ⟨_, call_tuple_of, ?_⟩
    intro R a H S xs z vs Q f s r e h
    cases r with
    | nil => simp [biV] at e
    | cons r rs =>
      cases rs with
      | cons _ _ => simp [biV] at e
      | nil =>
        simp only [biV, Option.map_eq_some_iff] at e
        obtain ⟨l, h1, h2⟩ := e
        subst h2
        rename_i x
        cases x with
        | tup l' =>
          simp only [PV.seq?, Option.some.injEq] at h1
          subst h1
          have rr := r
          obtain ⟨p, ws, rfl, hp, n, q⟩ := r.tup
          exact ⟨p, ws, rfl, .inr ⟨SqT.of hp, fin_here s rr h⟩⟩
        | lst l' =>
          obtain ⟨p, ws, rfl, hp, q⟩ := r.lst (l := l) h1
          exact ⟨p, ws, rfl, .inl ⟨SqL.of hp, fin_tup f s q h⟩⟩
        | own l' =>
          obtain ⟨p, ws, rfl, hp, q⟩ := r.lst (l := l) h1
          exact ⟨p, ws, rfl, .inl ⟨SqL.of hp, fin_tup f s q h⟩⟩
        | _ => simp [PV.seq?] at h1
  | sorted =>
    refine ⟨_, cr_srt hr.units, ?_⟩
    intro R a H S xs z vs Q f s r e h
    cases r with
    | nil => simp [biV] at e
    | cons r rs =>
      cases rs with
      | cons _ _ => simp [biV] at e
      | nil =>
        simp only [biV, Option.map_eq_some_iff, Option.bind_eq_some_iff] at e
        obtain ⟨l, ⟨l0, h0, h1⟩, h2⟩ := e
        subst h2
        obtain ⟨p, ws, rfl, hp, q⟩ := r.seq h0
        obtain ⟨bs, b1, b2, b3, b4, b5, b6⟩ := srt_of q h1
        subst b1
        exact ⟨p, bs, rfl, hp.elim (fun z => .inl (SqL.of z)) (fun z => .inr (SqT.of z)), b2, b3, b4, b5, fin_lst f s b6 h⟩
  | min1 =>
    refine ⟨_, cr_min hc, ?_⟩
    intro R a H S xs z vs Q f s r e h
    cases r with
    | nil => simp [biV] at e
    | cons r rs =>
      cases rs with
      | cons _ _ => rename_i x _ _ _ _; cases x <;> simp [biV] at e
      | nil =>
        simp only [biV, Option.map_eq_some_iff, Option.bind_eq_some_iff] at e
        obtain ⟨m, ⟨l, ⟨l0, h0, h1⟩, h3⟩, h2⟩ := e
        subst h2
        have hb := ints_of h1
        subst hb
        obtain ⟨p, ws, rfl, hp, q⟩ := r.lst h0
        have hw := q.ints
        subst hw
        obtain ⟨g1, g2, g3⟩ := minL_spec h3
        refine ⟨p, l, rfl, SqL.of hp, g1, fun m' k1 k2 => ?_⟩
        have : m' = m := Int.le_antisymm (k2 m g2) (g3 m' k1)
        rw [this]
        exact fin_int s h
  | mind =>
    refine ⟨_, cr_minD hc hr.units, ?_⟩
    intro R a H S xs z vs Q f s r e h
    cases r with
    | nil => simp [biV] at e
    | cons r rs =>
      cases rs with
      | cons _ _ => simp [biV] at e
      | nil =>
        simp only [biV, Option.bind_eq_some_iff] at e
        obtain ⟨l0, h0, h1⟩ := e
        simp only [mnV, Option.bind_eq_some_iff] at h1
        obtain ⟨ds, h2, h3⟩ := h1
        obtain ⟨p, ws, rfl, hp, q⟩ := r.lst h0
        cases ds with
        | nil => cases h3
        | cons d dr =>
          dsimp only at h3
          split at h3
          case isFalse => cases h3
          rename_i hk
          simp only [Bool.and_eq_true, List.all_eq_true, decide_eq_true_eq] at hk
          simp only [Option.some.injEq] at h3
          subst h3
          refine ⟨p, ws, d, dr, rfl, SqL.of hp, q.dp h2, ⟨hk.1.1, fun x hx z => ?_⟩, hk.2, fun i v hv hi => ?_⟩
          · have := hk.1.2 x hx
            rw [z] at this
            cases this
          · obtain ⟨x, hx1, hx2⟩ := pds_get h2 hi
            obtain ⟨w, hw1, hw2⟩ := q.get hx1
            rw [hv] at hw1
            cases hw1
            have ez := hw2.ofD hx2
            rw [ez] at h
            exact h v H Keep.refl s (Rep.toE hw2)
  | max1 =>
    refine ⟨_, cr_max hc, ?_⟩
    intro R a H S xs z vs Q f s r e h
    cases r with
    | nil => simp [biV] at e
    | cons r rs =>
      cases rs with
      | cons _ _ => rename_i x _ _ _ _; cases x <;> simp [biV] at e
      | nil =>
        simp only [biV, Option.map_eq_some_iff, Option.bind_eq_some_iff] at e
        obtain ⟨m, ⟨l, ⟨l0, h0, h1⟩, h3⟩, h2⟩ := e
        subst h2
        have hb := ints_of h1
        subst hb
        obtain ⟨p, ws, rfl, hp, q⟩ := r.lst h0
        have hw := q.ints
        subst hw
        obtain ⟨g1, g2, g3⟩ := maxL_spec h3
        refine ⟨p, l, rfl, SqL.of hp, g1, fun m' k1 k2 => ?_⟩
        have : m' = m := Int.le_antisymm (g3 m' k1) (k2 m g2)
        rw [this]
        exact fin_int s h
  | min2 =>
    refine ⟨_, call_min2 hc, ?_⟩
    intro R a H S xs z vs Q f s r e h
    cases r with
    | nil => simp [biV] at e
    | cons r rs =>
      cases rs with
      | nil => rename_i x; cases x <;> simp [biV] at e
      | cons r2 rs =>
        cases rs with
        | cons _ _ => rename_i x _ y _ _; cases x <;> cases y <;> simp [biV] at e
        | nil =>
          rename_i x _ y
          cases x <;> first | (simp [biV] at e; done) | (cases y <;> first | (simp [biV] at e; done) | (simp only [biV, Option.some.injEq] at e; subst e; exact ⟨_, _, by rw [r.int, r2.int], fin_int s h⟩))
  | max2 =>
    refine ⟨_, call_max2 hc, ?_⟩
    intro R a H S xs z vs Q f s r e h
    cases r with
    | nil => simp [biV] at e
    | cons r rs =>
      cases rs with
      | nil => rename_i x; cases x <;> simp [biV] at e
      | cons r2 rs =>
        cases rs with
        | cons _ _ => rename_i x _ y _ _; cases x <;> cases y <;> simp [biV] at e
        | nil =>
          rename_i x _ y
          cases x <;> first | (simp [biV] at e; done) | (cases y <;> first | (simp [biV] at e; done) | (simp only [biV, Option.some.injEq] at e; subst e; exact ⟨_, _, by rw [r.int, r2.int], fin_int s h⟩))
  | abs =>
    refine ⟨_, call_abs, ?_⟩
    intro R a H S xs z vs Q f s r e h
    cases r with
    | nil => simp [biV] at e
    | cons r rs =>
      cases rs with
      | cons _ _ => rename_i x _ _ _; cases x <;> simp [biV] at e
      | nil =>
        rename_i x
        cases x <;> first | (simp [biV] at e; done) | (simp only [biV, Option.some.injEq] at e; subst e; exact ⟨_, by rw [r.int], fin_int s h⟩)
  | int =>
    refine ⟨_, call_int1, ?_⟩
    intro R a H S xs z vs Q f s r e h
    cases r with
    | nil => simp [biV] at e
    | cons r rs =>
      cases rs with
      | cons _ _ => rename_i x _ _ _; cases x <;> simp [biV] at e
      | nil =>
        rename_i x
        cases x <;> first | (simp [biV] at e; done) | (simp only [biV, Option.some.injEq] at e; subst e; first | exact .inl ⟨_, by rw [r.int], fin_int s h⟩ | exact .inr ⟨_, by rw [r.bl], fin_int s h⟩)
  | type =>
    refine ⟨_, call_type6, ?_⟩
    intro R a H S xs z vs Q f s r e h
    cases r with
    | nil => simp [biV] at e
    | cons r rs =>
      cases rs with
      | cons _ _ => simp [biV] at e
      | nil =>
        simp only [biV, Option.map_eq_some_iff] at e
        obtain ⟨n, h1, h2⟩ := e
        subst h2
        exact ⟨_, n, rfl, ty6_of r h1, fin_ty s h⟩
  | isi =>
    refine ⟨_, call_isi, ?_⟩
    intro R a H S xs z vs Q f s r e h
    cases r with
    | nil => simp [biV] at e
    | cons r rs =>
      cases rs with
      | nil => simp [biV] at e
      | cons r2 rs =>
        cases rs with
        | cons _ _ => rename_i x _ y _ _; cases y <;> simp [biV] at e
        | nil =>
          rename_i x _ y
          cases y with
          | ty m =>
            simp only [biV, Option.bind_eq_some_iff, Option.map_eq_some_iff] at e
            obtain ⟨n, h1, k, h2, h3⟩ := e
            subst h3
            have e2 := r2.ty
            subst e2
            exact ⟨_, _, _, _, k, rfl, .ty m, .base (tyOf_v r h1), kit_ty h2, fin_bl s h⟩
          | _ => simp [biV] at e
end
end Ws

/-! Ws5: the check that a text in short is the text (chkE), and that it is worth what evE says. -/
namespace Ws
open PySem PySem.Spec PyProof.Rows L2

def gl (sc : Scope) (x : Str) : Bool := sc.names.lookup x == some .globalImplicit
def vis (sc : Scope) (x : Str) : Bool := match sc.names.lookup x with
  | some .local => true
  | some .cell => true
  | some .free => true
  | _ => false
/-- a name that a target may store: a local, a cell of the very block -/
def loc (sc : Scope) (x : Str) : Bool := match sc.names.lookup x with
  | some .local => true
  | some .cell => true
  | _ => false
def okName (x : Str) : Bool := !(x == ("__debug__" : Str)) && !(x == ("__classdict__" : Str))
def opOf : BOp → Operator
  | .add => .Add | .sub => .Sub | .mul => .Mult | .mod => .Mod | .fdiv => .FloorDiv | .pow => .Pow
def notStar : Expr → Bool
  | .Starred _ _ => false
  | _ => true
def notSet : Expr → Bool
  | .Set _ _ _ => false
  | _ => true
/-- what a name that is no def's stands for: nothing of the module (a built-in), or what was imported -/
def btV (x : Str) : Option Value := if x = "combinations" then some (.type "itertools.combinations") else if x = "gcd" then some (.builtin "math.gcd") else none
/-- names of built-ins that no module's name hides -/
def chkTg (N : List Str) (sc : Scope) : Expr → Tg → Bool
  | .Name x _, .nm i => (N[i]? == some x) && loc sc x
  | .Tuple es _ _, .tp l => go es l
  | _, _ => false
where
  go : List Expr → List Nat → Bool
  | [], [] => true
  | .Name x _ :: es, i :: l => (N[i]? == some x) && loc sc x && go es l
  | _, _ => false
def tgIn (t : Tg) (vs : List Nat) : Bool := (tgIx t).all fun i => vs.contains i
def chkL (ck : Expr → CE → Bool) : List Expr → List CE → Bool
  | [], [] => true
  | e :: es, c :: cs => notStar e && ck e c && chkL ck es cs
  | _, _ => false
def chkO (ck : Expr → CE → Bool) : Option Expr → Option CE → Bool
  | none, none => true
  | some e, some c => ck e c
  | _, _ => false
def isTupE : Expr → Bool
  | .Tuple _ _ _ => true
  | _ => false
section
variable (bts : List Str) (N : List Str)
def chkI (ck : Expr → CE → Bool) (sc : Scope) (tg : Expr) : Expr → CI → Bool
  | .Call (.Name x _) [b] [] _, .rng1 b' => (x == ("range" : Str)) && gl sc x && bts.contains x && notStar b && ck b b'
  | .Call (.Name x _) [a, b] [] _, .rng2 a' b' => (x == ("range" : Str)) && gl sc x && bts.contains x && notStar a && notStar b && ck a a' && ck b b'
  | .Call (.Name x _) [a, b] [] _, .zip a' b' => (x == ("zip" : Str)) && gl sc x && bts.contains x && notStar a && notStar b && isTupE tg && ck a a' && ck b b'
  | .Call (.Name x _) [.Call (.Name y _) [b] [] _, m] [] _, .cb1 b' m' => (x == ("combinations" : Str)) && gl sc x && bts.contains x && (y == ("range" : Str)) && gl sc y && bts.contains y && notStar b && notStar m && ck b b' && ck m m'
  | .Call (.Name x _) [.Call (.Name y _) [a, b] [] _, m] [] _, .cb2 a' b' m' => (x == ("combinations" : Str)) && gl sc x && bts.contains x && (y == ("range" : Str)) && gl sc y && bts.contains y && notStar a && notStar b && notStar m && ck a a' && ck b b' && ck m m'
  | .Call (.Name x _) [e, m] [] _, .cbl e' m' => (x == ("combinations" : Str)) && gl sc x && bts.contains x && notStar e && notStar m && ck e e' && ck m m'
  | .Call (.Name x _) [e] [] _, .enum e' => (x == ("enumerate" : Str)) && gl sc x && bts.contains x && notStar e && isTupE tg && ck e e'
  | e, .seq c => ck e c
  | _, _ => false
/-- the tests of a clause -/
def chkIf (ck : Expr → CE → Bool) : List Expr → Option CE → Bool
  | [], none => true
  | [d], some d' => ck d d'
  | _, _ => false
def chkE : Nat → Scope → Expr → CE → Bool
  | 0, _, _, _ => false
  | n + 1, sc, e, c =>
    match e, c with
    | .BoolOp _ [x] _, c => chkE n sc x c
    | .Constant .none _ _, .non => true
    | .Constant (.bool b) _ _, .bl b' => b == b'
    | .Constant (.int b) _ _, .int b' => b == b'
    | .Constant (.str b) _ _, .str b' => b == b'
    | .Name x _, .ty s => gl sc x && bts.contains x && (["int", "str", "bool", "tuple", "list"].contains s) && (x == Str.ofString s)
    | .Name x _, .var i => (N[i]? == some x) && vis sc x && okName x
    | .Name x _, .glo g => (x == g) && gl sc x && okName x
    | .Tuple es _ _, .tup l => chkL (chkE n sc) es l
    | .List es _, .lst l => chkL (chkE n sc) es l
    | .BinOp x o y _, .bin o' a b => (o == opOf o') && chkE n sc x a && chkE n sc y b
    | .UnaryOp .USub x _, .neg a => chkE n sc x a
    | .UnaryOp .Not x _, .not a => chkE n sc x a
    | .BoolOp .And (x :: y :: r) p, .and a b => chkE n sc x a && chkE n sc (.BoolOp .And (y :: r) p) b
    | .BoolOp .Or (x :: y :: r) p, .or a b => chkE n sc x a && chkE n sc (.BoolOp .Or (y :: r) p) b
    | .Compare x [o] [y] _, .cmp o' a b => (o == cOp o') && chkE n sc x a && chkE n sc y b && (behindInMarks o y == false)
    | .Compare x [o, o2] [y, z] _, .chain o' o2' a b d => (o == cOp o') && (o2 == cOp o2') && chkE n sc x a && chkE n sc y b && chkE n sc z d && (lastMarks [o, o2] [y, z] == false)
    | .IfExp t x y _, .ite d a b => chkE n sc t d && chkE n sc x a && chkE n sc y b
    | .Subscript x (.Slice lo hi none _) _, .sli a l h => chkE n sc x a && chkO (chkE n sc) lo l && chkO (chkE n sc) hi h
    | .Subscript x y _, .idx a i => chkE n sc x a && chkE n sc y i && (match y with | .Slice _ _ _ _ => false | _ => true)
    | .Call (.Name x _) (y :: es) [] _, .call f l => (x == f) && gl sc x && okName x && chkL (chkE n sc) (y :: es) l
    | .Call (.Name x _) (y :: es) [] _, .bi b l => (x == biName b) && gl sc x && bts.contains x && chkL (chkE n sc) (y :: es) l
    | .ListComp elt [⟨tg, it, ifs, 0⟩] scope _, .comp elt' tg' it' ifs' own =>
      chkI bts (chkE n sc) sc tg it it' && notSet it && blkC N sc scope own && chkTg N scope tg tg' && tgIn tg' (own.map (·.2)) &&
      (match ifs, ifs' with
        | [], none => true
        | [d], some d' => chkE n (relS scope sc) d d'
        | _, _ => false) && chkE n (relS scope sc) elt elt'
    | .ListComp elt [⟨tg, it, ifs, 0⟩, ⟨tg1, it1, ifs1, 0⟩] scope _, .comp2 elt' tg' it' ifs' tg1' it1' ifs1' own =>
      chkI bts (chkE n sc) sc tg it it' && notSet it && notSet it1 && blkC N sc scope own && chkTg N scope tg tg' && tgIn tg' (own.map (·.2)) && chkTg N scope tg1 tg1' && tgIn tg1' (own.map (·.2)) &&
      chkI bts (chkE n (relS scope sc)) (relS scope sc) tg1 it1 it1' && chkIf (chkE n (relS scope sc)) ifs ifs' && chkIf (chkE n (relS scope sc)) ifs1 ifs1' && chkE n (relS scope sc) elt elt'
    | .Subscript x (.Slice none none (some (.UnaryOp .USub (.Constant (.int j) _ _) _)) _) _, .rev a => (j == 1) && chkE n sc x a
    | .Call (.Name x _) [y, z] [] _, .gcd a b => (x == ("gcd" : Str)) && gl sc x && bts.contains x && notStar y && notStar z && chkE n sc y a && chkE n sc z b
    | .Call (.Name x _) [.Call (.Name y _) [b] [] _] [] _, .rg1 t b' => (x == (if t then ("tuple" : Str) else "list")) && gl sc x && bts.contains x && (y == ("range" : Str)) && gl sc y && bts.contains y && notStar b && chkE n sc b b'
    | .Call (.Name x _) [.Call (.Name y _) [a, b] [] _] [] _, .rg2 t a' b' => (x == (if t then ("tuple" : Str) else "list")) && gl sc x && bts.contains x && (y == ("range" : Str)) && gl sc y && bts.contains y && notStar a && notStar b && chkE n sc a a' && chkE n sc b b'
    | _, _ => false
end

/-! ### where a def's body runs -/
/-- the promise of a def that is worth φ -/
def spF (K : PySem.W.Frag) (np : Nat) (φ : Fn) : Sp := fun vs H Q E => ∃ (R : Addr → Prop) (a : Addr) (xs : List PV) (S : Strm) (r : Out) (S' : Strm), Fresh R a H ∧ Reps K R a H vs xs ∧ SRel K R a H S ∧ xs.length = np ∧ φ xs S = some (r, S') ∧
  match r with
  | .ret x => ∀ v H', Keep a H H' → SRel K R a H' S' → Rep K R a H' v x → Q v H'
  | .exc _ _ => False
structure FnT (X : Cx) (f : Str) (φ : Nat × Fn) : Prop where
  ex : ∃ p fd ps k cx, ps.length = φ.1 ∧ X.mg f = some (.ref p) ∧ PySem.W.keepIn X.K (.ref p) = true ∧ Binds X.K fd ps [] ∧ FnOk X.prog X.w X.K X.mg X.base cx k p fd ps (spF X.K φ.1 φ.2) ∧ Room k X.A ∧ ∀ Y : Cx, Y.prog = X.prog → Y.w = X.w → Passes cx Y E0
structure Good (T : Tbl) (bts N : List Str) (sc : Scope) (X : Cx) : Prop where
  hN : X.N = N
  hs : X.env.scope = sc
  calm : X.calm = true
  nd : N.Nodup
  room : Room 0 X.A
  fns : ∀ f φ, T.fn f = some φ → FnT X f φ
  glo : ∀ x i, T.glo x = some i → ∃ t, X.mg x = some (.int i t)
  bts : ∀ b ∈ bts, X.mg b = btV b
section
variable {T : Tbl} {bts N : List Str} {sc : Scope} {X : Cx}
theorem Good.blk (g : Good T bts N sc X) (s : Shared) (H : Hp) (scope : Scope) (C : Addr) (cl : List (Str × Addr)) (fp : List Addr) : Good T bts N (relS scope sc) (X.blk s H scope (compEnvC scope cl C X.env) fp) :=
  ⟨g.hN, by rw [← g.hs]; rfl, g.calm, g.nd, g.room, fun f φ h => let ⟨x⟩ := g.fns f φ h; ⟨x⟩, g.glo, g.bts⟩
theorem Good.gl (g : Good T bts N sc X) {x : Str} (h : gl sc x = true) : Gl X x := by
  show X.env.scope.names.lookup x = some .globalImplicit
  rw [g.hs]
  simpa [Ws.gl] using h
theorem Good.vis (g : Good T bts N sc X) {x : Str} (h : vis sc x = true) : Vis X.env.scope x := by
  unfold Ws.vis at h
  rw [g.hs]
  unfold Vis
  split at h <;> rename_i e
  · exact .inl e
  · exact .inr (.inl e)
  · exact .inr (.inr e)
  · cases h
theorem Good.loc (g : Good T bts N sc X) {x : Str} (h : loc sc x = true) : L2.Loc X.env.scope x := by
  unfold Ws.loc at h
  rw [g.hs]
  unfold L2.Loc
  split at h <;> rename_i e
  · exact .inl e
  · exact .inr e
  · cases h
theorem Good.ix (g : Good T bts N sc X) {i : Nat} {x : Str} (h : (N[i]? == some x) = true) : X.N[i]? = some x := by rw [g.hN]; simpa using h
theorem Good.bt (g : Good T bts N sc X) {x : Str} (h : bts.contains x = true) (hv : btV x = none := by decide) : X.mg x = none := (g.bts x (by simpa using h)).trans hv
theorem btV_bi (b : Bi) : btV (biName b) = none := by cases b <;> decide
theorem Good.gcd (g : Good T bts N sc X) (h : bts.contains ("gcd" : Str) = true) : X.mg "gcd" = some (.builtin "math.gcd") := (g.bts _ (by simpa using h)).trans (by decide)
theorem Good.cmb (g : Good T bts N sc X) (h : bts.contains ("combinations" : Str) = true) : X.mg "combinations" = some (.type "itertools.combinations") := (g.bts _ (by simpa using h)).trans (by decide)
end
theorem _root_.L2.PE.imp {X : Cx} {e : Expr} {t t' : TE} (h : PE X e t) (m : ∀ σ H Q, t' σ H Q → t σ H Q) : PE X e t' := ⟨fun pins s σ H Q I q => h.run pins s σ H Q I (m σ H Q q)⟩
theorem _root_.L2.PT.imp {X : Cx} {e : Expr} {t t' : TT} (h : PT X e t) (m : ∀ σ H Q, t' σ H Q → t σ H Q) : PT X e t' := ⟨fun pins s σ H Q I q => h.run pins s σ H Q I (m σ H Q q)⟩
theorem _root_.L2.PW.imp {X : Cx} {e : Expr} {t t' : TT} (h : PW X e t) (m : ∀ σ H Q, t' σ H Q → t σ H Q) : PW X e t' := ⟨fun w pins s σ H Q I q => h.run w pins s σ H Q I (m σ H Q q)⟩
theorem _root_.L2.PA.imp {X : Cx} {e : List Expr} {t t' : TA} (h : PA X e t) (m : ∀ σ H Q, t' σ H Q → t σ H Q) : PA X e t' := ⟨fun w pins s σ H Q I q => h.run w pins s σ H Q I (m σ H Q q)⟩
theorem star1 {e : Expr} {es : List Expr} {env : PySem.Env} (h : notStar e = true) : starEach (e :: es) env = (false, eval e env) :: starEach es env := by
  cases e <;> first | rfl | (simp [notStar] at h)

/-! ### the readings -/
section
variable (T : Tbl) (K : PySem.W.Frag)
/-- where one stands: R, the stream's address, the names' values, the stream -/
structure At (σ : L2.St) (H : Hp) (R : Addr → Prop) (a : Addr) (env : Env) (S : Strm) : Prop where
  fr : Fresh R a H
  en : EnvE K R a H σ env
  sr : SRel K R a H S
def tV (n : Nat) (c : CE) : TE := fun σ H Q => ∃ R a env S x S', At K σ H R a env S ∧ evE T n c env S = some (x, S') ∧ ∀ v H', Keep a H H' → SRel K R a H' S' → RepE K R a H' v x → Q v H'
def tVs (n : Nat) (l : List CE) : TA := fun σ H Q => ∃ R a env S xs S', At K σ H R a env S ∧ evL (fun e S => evE T n e env S) l S = some (xs, S') ∧ ∀ vs H', Keep a H H' → SRel K R a H' S' → RepsE K R a H' vs xs → Q vs H'
def tB (n : Nat) (c : CE) : TT := fun σ H Q => ∃ R a env S x S' b, At K σ H R a env S ∧ evE T n c env S = some (x, S') ∧ x.tru = some b ∧ ∀ H', Keep a H H' → SRel K R a H' S' → Q b H'
end
section
variable {K : PySem.W.Frag} {σ : L2.St} {H H' : Hp} {R : Addr → Prop} {a : Addr} {env : Env} {S S' : Strm}
theorem At.keep (h : At K σ H R a env S) (k : Keep a H H') (s : SRel K R a H' S') : At K σ H' R a env S' := ⟨h.fr.keep k, h.en.keep k, s⟩
theorem RepsE.keep (k : Keep a H H') : ∀ {vs : List V} {xs : List PV}, RepsE K R a H vs xs → RepsE K R a H' vs xs
  | _, _, .nil => .nil
  | _, _, .cons r t => .cons (r.keep k) (RepsE.keep k t)
theorem RepsE.length : ∀ {vs : List V} {xs : List PV}, RepsE K R a H vs xs → vs.length = xs.length
  | _, _, .nil => rfl
  | _, _, .cons r t => by rw [List.length_cons, List.length_cons, RepsE.length t]
theorem RepsE.reps : ∀ {vs : List V} {xs : List PV}, RepsE K R a H vs xs → xs.all (fun x => !x.isOwn) = true → Reps K R a H vs xs
  | _, _, .nil, _ => .nil
  | _, _, .cons r t, h => by
    rw [List.all_cons, Bool.and_eq_true] at h
    exact .cons (r.rep (by simpa using h.1)) (RepsE.reps t h.2)
end
/-- a list of expressions -/
theorem pa_ev {T : Tbl} {X : Cx} {n : Nat} {ck : Expr → CE → Bool} (ih : ∀ e c, ck e c = true → PE X e (tV T X.K n c)) : ∀ (es : List Expr) (cs : List CE), chkL ck es cs = true → PA X es (tVs T X.K n cs)
  | [], [], _ => pa_nil.imp fun σ H Q h => by
    obtain ⟨R, a, env, S, xs, S', A, e, q⟩ := h
    simp only [evL, Option.some.injEq, Prod.mk.injEq] at e
    obtain ⟨rfl, rfl⟩ := e
    exact q [] H Keep.refl A.sr .nil
  | e :: es, c :: cs, h => by
    simp only [chkL, Bool.and_eq_true] at h
    refine (pa_cons (ih e c h.1.2) (pa_ev ih es cs h.2) (star1 h.1.1)).imp fun σ H Q hq => ?_
    obtain ⟨R, a, env, S, xs, S', A, ev, q⟩ := hq
    simp only [evL, Option.bind_eq_some_iff, Option.map_eq_some_iff] at ev
    obtain ⟨⟨x, S1⟩, e1, ⟨ys, S2⟩, e2, e3⟩ := ev
    simp only [Prod.mk.injEq] at e3
    obtain ⟨rfl, rfl⟩ := e3
    exact ⟨R, a, env, S, x, S1, A, e1, fun v H1 k1 s1 r1 => ⟨R, a, env, S1, ys, S2, A.keep k1 s1, e2, fun vs H2 k2 s2 r2 => q _ _ (k1.trans k2) s2 (.cons (r1.keep k2) r2)⟩⟩
  | [], _ :: _, h => by simp [chkL] at h
  | _ :: _, [], h => by simp [chkL] at h
theorem chkL_ne {ck : Expr → CE → Bool} {e : Expr} {es : List Expr} {cs : List CE} (h : chkL ck (e :: es) cs = true) : notStar e = true := by
  cases cs with
  | nil => simp [chkL] at h
  | cons c cs => simp only [chkL, Bool.and_eq_true] at h; exact h.1.1
theorem chkL_plain {ck : Expr → CE → Bool} {env : PySem.Env} {pos : Pos} : ∀ {es : List Expr} {cs : List CE}, chkL ck es cs = true → (backTo pos (starEach es env)).any (·.1) = false
  | [], _, _ => rfl
  | e :: es, [], h => by simp [chkL] at h
  | e :: es, c :: cs, h => by
    simp only [chkL, Bool.and_eq_true] at h
    rw [star1 h.1.1]
    show (false || (backTo pos (starEach es env)).any (·.1)) = false
    rw [Bool.false_or]
    exact chkL_plain h.2
end Ws

/-! Ws6: an expression is worth what evE says. -/
namespace Ws
open PySem PySem.Spec PyProof.Rows L2

section
variable {T : Tbl} {X : Cx} {n : Nat}
theorem pe_zero {e : Expr} {c : CE} : PE X e (tV T X.K 0 c) := ⟨fun _ _ _ _ _ _ ⟨_, _, _, _, _, _, _, h, _⟩ => by simp [evE] at h⟩
theorem pt_zero {e : Expr} {c : CE} : PT X e (tB T X.K 0 c) := ⟨fun _ _ _ _ _ _ ⟨_, _, _, _, _, _, _, _, h, _⟩ => by simp [evE] at h⟩
theorem ptOf {e : Expr} {c : CE} (h : PE X e (tV T X.K n c)) (he : ∀ whole, isTrue e X.env whole = (do let v ← whole; standAt e.pos; holding [v] (truthy v))) : PT X e (tB T X.K n c) := by
  refine (pt_truth h he).imp fun σ H Q hq => ?_
  obtain ⟨R, a, env, S, x, S', b, A, e1, e2, q⟩ := hq
  exact ⟨R, a, env, S, x, S', A, e1, fun v H' k s r => ⟨b, tru_v r e2, q H' k s⟩⟩
/-- constants -/
theorem pe_const {e : Expr} {c : CE} {v : V} {x : PV} (h : PE X e (tC v)) (he : ∀ env S, evE T (n + 1) c env S = some (x, S)) (r : ∀ {R a H}, Rep X.K R a H v x) : PE X e (tV T X.K (n + 1) c) := by
  refine h.imp fun σ H Q hq => ?_
  obtain ⟨R, a, env, S, y, S', A, e1, q⟩ := hq
  rw [he] at e1
  simp only [Option.some.injEq, Prod.mk.injEq] at e1
  obtain ⟨rfl, rfl⟩ := e1
  exact q v H Keep.refl A.sr (Rep.toE r)
theorem pe_varV {i : Nat} {x : Str} {pos : Pos} (h : PE X (.Name x pos) (tVar i)) : PE X (.Name x pos) (tV T X.K (n + 1) (.var i)) := by
  refine h.imp fun σ H Q hq => ?_
  obtain ⟨R, a, env, S, y, S', A, e1, q⟩ := hq
  simp only [evE] at e1
  split at e1
  · rename_i z hz
    simp only [Option.some.injEq, Prod.mk.injEq] at e1
    obtain ⟨rfl, rfl⟩ := e1
    obtain ⟨v, h1, h2⟩ := A.en.get i _ hz
    exact ⟨v, h1, q v H Keep.refl A.sr h2⟩
  · cases e1
theorem pe_tupV {es : List Expr} {k pos} {l : List CE} (h : PA X es (tVs T X.K n l)) : PE X (.Tuple es k pos) (tV T X.K (n + 1) (.tup l)) := by
  refine (pe_tup h).imp fun σ H Q hq => ?_
  obtain ⟨R, a, env, S, y, S', A, e1, q⟩ := hq
  simp only [evE, Option.bind_eq_some_iff] at e1
  obtain ⟨⟨xs, S1⟩, h1, h2⟩ := e1
  split at h2
  · rename_i hl
    rw [Bool.and_eq_true, decide_eq_true_eq] at hl
    simp only [Option.some.injEq, Prod.mk.injEq] at h2
    obtain ⟨rfl, rfl⟩ := h2
    refine ⟨R, a, env, S, xs, S1, A, h1, fun vs H' k s r => ⟨LIM_le (by rw [r.length]; exact hl.2), ?_⟩⟩
    exact fin_tup (A.fr.keep k) s (r.reps hl.1) fun u H2 k2 s2 r2 => q u H2 (k.trans k2) s2 r2
  · cases h2
theorem pe_lstV {es : List Expr} {pos} {l : List CE} (h : PA X es (tVs T X.K n l)) : PE X (.List es pos) (tV T X.K (n + 1) (.lst l)) := by
  refine (pe_lst h).imp fun σ H Q hq => ?_
  obtain ⟨R, a, env, S, y, S', A, e1, q⟩ := hq
  simp only [evE, Option.bind_eq_some_iff] at e1
  obtain ⟨⟨xs, S1⟩, h1, h2⟩ := e1
  split at h2
  · rename_i hl
    rw [Bool.and_eq_true, decide_eq_true_eq] at hl
    simp only [Option.some.injEq, Prod.mk.injEq] at h2
    obtain ⟨rfl, rfl⟩ := h2
    refine ⟨R, a, env, S, xs, S1, A, h1, fun vs H' k s r => ⟨LIM_le (by rw [r.length]; exact hl.2), ?_⟩⟩
    exact fin_lst (A.fr.keep k) s (r.reps hl.1) fun u H2 k2 s2 r2 => q u H2 (k.trans k2) s2 r2
  · cases h2
variable {x y z : Expr} {a b d : CE} {pos : Pos}
theorem pe_binV {o : BOp} (ha : PE X x (tV T X.K n a)) (hb : PE X y (tV T X.K n b)) : PE X (.BinOp x (opOf o) y pos) (tV T X.K (n + 1) (.bin o a b)) := by
  obtain ⟨op, r, h1, h2, h3⟩ := bin_ok (X := X) o
  have e : op = opOf o := by cases o <;> exact h2
  subst e
  refine (pe_op h1 ha hb).imp fun σ H Q hq => ?_
  obtain ⟨R, ad, env, S, w, S', A, e1, q⟩ := hq
  simp only [evE, Option.bind_eq_some_iff, Option.map_eq_some_iff] at e1
  obtain ⟨⟨v1, S1⟩, e1, ⟨v2, S2⟩, e2, v3, e3, e4⟩ := e1
  simp only [Prod.mk.injEq] at e4
  obtain ⟨rfl, rfl⟩ := e4
  exact ⟨R, ad, env, S, v1, S1, A, e1, fun u H1 k1 s1 r1 => ⟨R, ad, env, S1, v2, S2, A.keep k1 s1, e2, fun u2 H2 k2 s2 r2 =>
    h3 ((A.fr.keep k1).keep k2) s2 (r1.keep k2) r2 e3 fun u3 H3 k3 s3 r3 => q u3 H3 ((k1.trans k2).trans k3) s3 r3⟩⟩
theorem pe_negV (ha : PE X x (tV T X.K n a)) : PE X (.UnaryOp .USub x pos) (tV T X.K (n + 1) (.neg a)) := by
  refine (pe_un un_neg ha).imp fun σ H Q hq => ?_
  obtain ⟨R, ad, env, S, w, S', A, e1, q⟩ := hq
  simp only [evE, Option.bind_eq_some_iff] at e1
  obtain ⟨⟨v1, S1⟩, e1, e2⟩ := e1
  split at e2
  · rename_i i hi
    simp only [Option.some.injEq, Prod.mk.injEq] at e2
    obtain ⟨rfl, rfl⟩ := e2
    have hi : v1 = .int i := hi
    subst hi
    exact ⟨R, ad, env, S, _, S1, A, e1, fun u H1 k1 s1 r1 => ⟨i, r1.int, q _ H1 k1 s1 (Rep.int _).toE⟩⟩
  · cases e2
/-- not, as a test and as a value -/
theorem pt_notV (ha : PT X x (tB T X.K n a)) : PT X (.UnaryOp .Not x pos) (tB T X.K (n + 1) (.not a)) := by
  refine (pt_not ha).imp fun σ H Q hq => ?_
  obtain ⟨R, ad, env, S, w, S', b, A, e1, e2, q⟩ := hq
  simp only [evE, Option.bind_eq_some_iff, Option.map_eq_some_iff] at e1
  obtain ⟨⟨v1, S1⟩, e1, k, h1, h2⟩ := e1
  simp only [Prod.mk.injEq] at h2
  obtain ⟨rfl, rfl⟩ := h2
  simp only [PV.tru, Option.some.injEq] at e2
  subst e2
  exact ⟨R, ad, env, S, v1, S1, k, A, e1, h1, q⟩
theorem pe_notV (ha : PE X x (tV T X.K n a)) : PE X (.UnaryOp .Not x pos) (tV T X.K (n + 1) (.not a)) := by
  refine (pe_notT ha).imp fun σ H Q hq => ?_
  obtain ⟨R, ad, env, S, w, S', A, e1, q⟩ := hq
  simp only [evE, Option.bind_eq_some_iff, Option.map_eq_some_iff] at e1
  obtain ⟨⟨v1, S1⟩, e1, k, h1, h2⟩ := e1
  simp only [Prod.mk.injEq] at h2
  obtain ⟨rfl, rfl⟩ := h2
  exact ⟨R, ad, env, S, v1, S1, A, e1, fun u H1 k1 s1 r1 => ⟨k, tru_v r1 h1, q _ H1 k1 s1 (Rep.bl _).toE⟩⟩

theorem pwOf {op : BoolOp} {vs : List Expr} {t : TT} (h : PT X (.BoolOp op vs pos) t) : PW X (.BoolOp op vs pos) t := ⟨fun w pins s σ H Q I q => by
  have e : isTrue (.BoolOp op vs pos) X.env w = isTrue (.BoolOp op vs pos) X.env (eval (.BoolOp op vs pos) X.env) := by
    first | rfl | simp only [isTrue]
  rw [e]
  exact h.run pins s σ H Q I q⟩
theorem pe_andV {r : List Expr} (ha : PE X x (tV T X.K n a)) (hb : PE X (.BoolOp .And (y :: r) pos) (tV T X.K n b)) : PE X (.BoolOp .And (x :: y :: r) pos) (tV T X.K (n + 1) (.and a b)) := by
  refine (pe_and ha hb).imp fun σ H Q hq => ?_
  obtain ⟨R, ad, env, S, w, S', A, e1, q⟩ := hq
  simp only [evE, Option.bind_eq_some_iff] at e1
  obtain ⟨⟨v1, S1⟩, e1, e2⟩ := e1
  refine ⟨R, ad, env, S, v1, S1, A, e1, fun u H1 k1 s1 r1 => ?_⟩
  split at e2
  · rename_i hv
    have hv : v1 = .bl true := hv
    subst hv
    refine ⟨true, r1.bl, ?_⟩
    rw [if_pos rfl]
    exact ⟨R, ad, env, S1, w, S', A.keep k1 s1, e2, fun u2 H2 k2 s2 r2 => q u2 H2 (k1.trans k2) s2 r2⟩
  · rename_i hv
    have hv : v1 = .bl false := hv
    subst hv
    refine ⟨false, r1.bl, ?_⟩
    simp only [Option.some.injEq, Prod.mk.injEq] at e2
    obtain ⟨rfl, rfl⟩ := e2
    rw [if_neg (by decide)]
    exact q _ H1 k1 s1 (Rep.bl _).toE
  · cases e2
theorem pe_orV {r : List Expr} (ha : PE X x (tV T X.K n a)) (hb : PE X (.BoolOp .Or (y :: r) pos) (tV T X.K n b)) : PE X (.BoolOp .Or (x :: y :: r) pos) (tV T X.K (n + 1) (.or a b)) := by
  refine (pe_or ha hb).imp fun σ H Q hq => ?_
  obtain ⟨R, ad, env, S, w, S', A, e1, q⟩ := hq
  simp only [evE, Option.bind_eq_some_iff] at e1
  obtain ⟨⟨v1, S1⟩, e1, e2⟩ := e1
  refine ⟨R, ad, env, S, v1, S1, A, e1, fun u H1 k1 s1 r1 => ?_⟩
  split at e2
  · rename_i hv
    have hv : v1 = .bl true := hv
    subst hv
    refine ⟨true, r1.bl, ?_⟩
    simp only [Option.some.injEq, Prod.mk.injEq] at e2
    obtain ⟨rfl, rfl⟩ := e2
    rw [if_pos rfl]
    exact q _ H1 k1 s1 (Rep.bl _).toE
  · rename_i hv
    have hv : v1 = .bl false := hv
    subst hv
    refine ⟨false, r1.bl, ?_⟩
    rw [if_neg (by decide)]
    exact ⟨R, ad, env, S1, w, S', A.keep k1 s1, e2, fun u2 H2 k2 s2 r2 => q u2 H2 (k1.trans k2) s2 r2⟩
  · cases e2
theorem pt_andV {r : List Expr} (ha : PT X x (tB T X.K n a)) (hb : PT X (.BoolOp .And (y :: r) pos) (tB T X.K n b)) : PT X (.BoolOp .And (x :: y :: r) pos) (tB T X.K (n + 1) (.and a b)) := by
  refine (pw_and ha (pwOf hb)).pt.imp fun σ H Q hq => ?_
  obtain ⟨R, ad, env, S, w, S', c, A, e1, ec, q⟩ := hq
  simp only [evE, Option.bind_eq_some_iff] at e1
  obtain ⟨⟨v1, S1⟩, e1, e2⟩ := e1
  split at e2
  · rename_i hv
    have hv : v1 = .bl true := hv
    subst hv
    refine ⟨R, ad, env, S, _, S1, true, A, e1, rfl, fun H1 k1 s1 => ?_⟩
    refine iteT ?_
    exact ⟨R, ad, env, S1, w, S', c, A.keep k1 s1, e2, ec, fun H2 k2 s2 => q H2 (k1.trans k2) s2⟩
  · rename_i hv
    have hv : v1 = .bl false := hv
    subst hv
    simp only [Option.some.injEq, Prod.mk.injEq] at e2
    obtain ⟨rfl, rfl⟩ := e2
    simp only [PV.tru, Option.some.injEq] at ec
    subst ec
    refine ⟨R, ad, env, S, _, S1, false, A, e1, rfl, fun H1 k1 s1 => ?_⟩
    refine iteF ?_
    exact q H1 k1 s1
  · cases e2
theorem pt_orV {r : List Expr} (ha : PT X x (tB T X.K n a)) (hb : PT X (.BoolOp .Or (y :: r) pos) (tB T X.K n b)) : PT X (.BoolOp .Or (x :: y :: r) pos) (tB T X.K (n + 1) (.or a b)) := by
  refine (pw_or ha (pwOf hb)).pt.imp fun σ H Q hq => ?_
  obtain ⟨R, ad, env, S, w, S', c, A, e1, ec, q⟩ := hq
  simp only [evE, Option.bind_eq_some_iff] at e1
  obtain ⟨⟨v1, S1⟩, e1, e2⟩ := e1
  split at e2
  · rename_i hv
    have hv : v1 = .bl true := hv
    subst hv
    simp only [Option.some.injEq, Prod.mk.injEq] at e2
    obtain ⟨rfl, rfl⟩ := e2
    simp only [PV.tru, Option.some.injEq] at ec
    subst ec
    refine ⟨R, ad, env, S, _, S1, true, A, e1, rfl, fun H1 k1 s1 => ?_⟩
    refine iteT ?_
    exact q H1 k1 s1
  · rename_i hv
    have hv : v1 = .bl false := hv
    subst hv
    refine ⟨R, ad, env, S, _, S1, false, A, e1, rfl, fun H1 k1 s1 => ?_⟩
    refine iteF ?_
    exact ⟨R, ad, env, S1, w, S', c, A.keep k1 s1, e2, ec, fun H2 k2 s2 => q H2 (k1.trans k2) s2⟩
  · cases e2
/-- comparisons -/
theorem pe_cmpV {o : COp} (hr : Room 0 X.A) (ha : PE X x (tV T X.K n a)) (hb : PE X y (tV T X.K n b)) (hm : behindInMarks (cOp o) y = false) :
    PE X (.Compare x [cOp o] [y] pos) (tV T X.K (n + 1) (.cmp o a b)) ∧ PT X (.Compare x [cOp o] [y] pos) (tB T X.K (n + 1) (.cmp o a b)) := by
  obtain ⟨r, h1, h3⟩ := cmp_ok (X := X) hr o
  refine ⟨(pe_cmpR h1 ha hb hm).imp fun σ H Q hq => ?_, (pt_cmpR h1 ha hb hm).imp fun σ H Q hq => ?_⟩
  · obtain ⟨R, ad, env, S, w, S', A, e1, q⟩ := hq
    simp only [evE, Option.bind_eq_some_iff, Option.map_eq_some_iff] at e1
    obtain ⟨⟨v1, S1⟩, e1, ⟨v2, S2⟩, e2, v3, e3, e4⟩ := e1
    simp only [Prod.mk.injEq] at e4
    obtain ⟨rfl, rfl⟩ := e4
    exact ⟨R, ad, env, S, v1, S1, A, e1, fun u H1 k1 s1 r1 => ⟨R, ad, env, S1, v2, S2, A.keep k1 s1, e2, fun u2 H2 k2 s2 r2 =>
      h3 s2 (r1.keep k2) r2 e3 (q _ H2 (k1.trans k2) s2 (Rep.bl _).toE)⟩⟩
  · obtain ⟨R, ad, env, S, w, S', c, A, e1, ec, q⟩ := hq
    simp only [evE, Option.bind_eq_some_iff, Option.map_eq_some_iff] at e1
    obtain ⟨⟨v1, S1⟩, e1, ⟨v2, S2⟩, e2, v3, e3, e4⟩ := e1
    simp only [Prod.mk.injEq] at e4
    obtain ⟨rfl, rfl⟩ := e4
    simp only [PV.tru, Option.some.injEq] at ec
    subst ec
    exact ⟨R, ad, env, S, v1, S1, A, e1, fun u H1 k1 s1 r1 => ⟨R, ad, env, S1, v2, S2, A.keep k1 s1, e2, fun u2 H2 k2 s2 r2 =>
      h3 s2 (r1.keep k2) r2 e3 ⟨v3, rfl, q H2 (k1.trans k2) s2⟩⟩⟩
theorem pe_chainV {o o' : COp} (hr : Room 0 X.A) (ha : PE X x (tV T X.K n a)) (hb : PE X y (tV T X.K n b)) (hc : PE X z (tV T X.K n d)) (hm : lastMarks [cOp o, cOp o'] [y, z] = false) :
    PE X (.Compare x [cOp o, cOp o'] [y, z] pos) (tV T X.K (n + 1) (.chain o o' a b d)) ∧ PT X (.Compare x [cOp o, cOp o'] [y, z] pos) (tB T X.K (n + 1) (.chain o o' a b d)) := by
  obtain ⟨r, h1, h3⟩ := cmp_ok (X := X) hr o
  obtain ⟨r', h1', h3'⟩ := cmp_ok (X := X) hr o'
  refine ⟨(pe_chain h1 h1' ha hb hc hm).imp fun σ H Q hq => ?_, (pt_chain h1 h1' ha hb hc hm).imp fun σ H Q hq => ?_⟩
  · obtain ⟨R, ad, env, S, w, S', A, e1, q⟩ := hq
    simp only [evE, Option.bind_eq_some_iff] at e1
    obtain ⟨⟨v1, S1⟩, e1, ⟨v2, S2⟩, e2, v3, e3, e4⟩ := e1
    refine ⟨R, ad, env, S, v1, S1, A, e1, fun u H1 k1 s1 r1 => ⟨R, ad, env, S1, v2, S2, A.keep k1 s1, e2, fun u2 H2 k2 s2 r2 => h3 s2 (r1.keep k2) r2 e3 ⟨v3, rfl, ?_⟩⟩⟩
    cases v3 with
    | true =>
      rw [if_pos rfl] at e4 ⊢
      simp only [Option.bind_eq_some_iff, Option.map_eq_some_iff] at e4
      obtain ⟨⟨v4, S3⟩, e5, k, e6, e7⟩ := e4
      simp only [Prod.mk.injEq] at e7
      obtain ⟨rfl, rfl⟩ := e7
      exact ⟨R, ad, env, S2, v4, S3, (A.keep k1 s1).keep k2 s2, e5, fun u3 H3 k3 s3 r3 => h3' s3 (r2.keep k3) r3 e6 (q _ H3 ((k1.trans k2).trans k3) s3 (Rep.bl _).toE)⟩
    | false =>
      rw [if_neg (by decide)] at e4 ⊢
      simp only [Option.some.injEq, Prod.mk.injEq] at e4
      obtain ⟨rfl, rfl⟩ := e4
      exact q _ H2 (k1.trans k2) s2 (Rep.bl _).toE
  · obtain ⟨R, ad, env, S, w, S', c, A, e1, ec, q⟩ := hq
    simp only [evE, Option.bind_eq_some_iff] at e1
    obtain ⟨⟨v1, S1⟩, e1, ⟨v2, S2⟩, e2, v3, e3, e4⟩ := e1
    refine ⟨R, ad, env, S, v1, S1, A, e1, fun u H1 k1 s1 r1 => ⟨R, ad, env, S1, v2, S2, A.keep k1 s1, e2, fun u2 H2 k2 s2 r2 => h3 s2 (r1.keep k2) r2 e3 ⟨v3, rfl, ?_⟩⟩⟩
    cases v3 with
    | true =>
      rw [if_pos rfl] at e4 ⊢
      simp only [Option.bind_eq_some_iff, Option.map_eq_some_iff] at e4
      obtain ⟨⟨v4, S3⟩, e5, k, e6, e7⟩ := e4
      simp only [Prod.mk.injEq] at e7
      obtain ⟨rfl, rfl⟩ := e7
      simp only [PV.tru, Option.some.injEq] at ec
      subst ec
      exact ⟨R, ad, env, S2, v4, S3, (A.keep k1 s1).keep k2 s2, e5, fun u3 H3 k3 s3 r3 => h3' s3 (r2.keep k3) r3 e6 ⟨k, rfl, q H3 ((k1.trans k2).trans k3) s3⟩⟩
    | false =>
      rw [if_neg (by decide)] at e4 ⊢
      simp only [Option.some.injEq, Prod.mk.injEq] at e4
      obtain ⟨rfl, rfl⟩ := e4
      simp only [PV.tru, Option.some.injEq] at ec
      subst ec
      exact ⟨false, rfl, q H2 (k1.trans k2) s2⟩
/-- x if t else y -/
theorem pe_iteV (hd : PT X z (tB T X.K n d)) (ha : PE X x (tV T X.K n a)) (hb : PE X y (tV T X.K n b)) : PE X (.IfExp z x y pos) (tV T X.K (n + 1) (.ite d a b)) := by
  refine (pe_ifExp hd ha hb).imp fun σ H Q hq => ?_
  obtain ⟨R, ad, env, S, w, S', A, e1, q⟩ := hq
  simp only [evE, Option.bind_eq_some_iff] at e1
  obtain ⟨⟨v1, S1⟩, e1, k, e2, e3⟩ := e1
  refine ⟨R, ad, env, S, v1, S1, k, A, e1, e2, fun H1 k1 s1 => ?_⟩
  cases k with
  | true =>
    rw [if_pos rfl] at e3
    refine iteT ?_
    exact ⟨R, ad, env, S1, w, S', A.keep k1 s1, e3, fun u2 H2 k2 s2 r2 => q u2 H2 (k1.trans k2) s2 r2⟩
  | false =>
    rw [if_neg (by decide)] at e3
    refine iteF ?_
    exact ⟨R, ad, env, S1, w, S', A.keep k1 s1, e3, fun u2 H2 k2 s2 r2 => q u2 H2 (k1.trans k2) s2 r2⟩
theorem pt_ifExp {tc ta tb : TT} (hc : PT X z tc) (ha : PT X x ta) (hb : PT X y tb) : PT X (.IfExp z x y pos) (fun σ H Q => tc σ H fun k H1 => if k = true then ta σ H1 Q else tb σ H1 Q) := by
  refine ⟨fun pins s σ H Q I h => ?_⟩
  have e : isTrue (.IfExp z x y pos) X.env (eval (.IfExp z x y pos) X.env) = (do if ← isTrue z X.env (eval z X.env) then isTrue x X.env (eval x X.env) else isTrue y X.env (eval y X.env)) := by
    first | rfl | simp only [isTrue]
  rw [e]
  refine wpAny_bind (thn (hc.run pins s σ H _ I h) fun d s1 ⟨H1, I1, q1⟩ => ?_)
  cases d with
  | true =>
    rw [if_pos rfl] at q1 ⊢
    exact ha.run pins s1 σ H1 Q I1 q1
  | false =>
    rw [if_neg (by decide)] at q1 ⊢
    exact hb.run pins s1 σ H1 Q I1 q1
theorem pt_iteV (hd : PT X z (tB T X.K n d)) (ha : PT X x (tB T X.K n a)) (hb : PT X y (tB T X.K n b)) : PT X (.IfExp z x y pos) (tB T X.K (n + 1) (.ite d a b)) := by
  refine (pt_ifExp hd ha hb).imp fun σ H Q hq => ?_
  obtain ⟨R, ad, env, S, w, S', c, A, e1, ec, q⟩ := hq
  simp only [evE, Option.bind_eq_some_iff] at e1
  obtain ⟨⟨v1, S1⟩, e1, k, e2, e3⟩ := e1
  refine ⟨R, ad, env, S, v1, S1, k, A, e1, e2, fun H1 k1 s1 => ?_⟩
  cases k with
  | true =>
    rw [if_pos rfl] at e3
    refine iteT ?_
    exact ⟨R, ad, env, S1, w, S', c, A.keep k1 s1, e3, ec, fun H2 k2 s2 => q H2 (k1.trans k2) s2⟩
  | false =>
    rw [if_neg (by decide)] at e3
    refine iteF ?_
    exact ⟨R, ad, env, S1, w, S', c, A.keep k1 s1, e3, ec, fun H2 k2 s2 => q H2 (k1.trans k2) s2⟩
end
end Ws

/-! Ws7: indexes, slices, calls. -/
namespace Ws
open PySem PySem.Spec PyProof.Rows L2

section
variable {T : Tbl} {X : Cx} {n : Nat} {x y z : Expr} {a b d : CE} {pos : Pos}
theorem Reps.at {K : PySem.W.Frag} {R : Addr → Prop} {a : Addr} {H : Hp} {vs : List V} {xs : List PV} {i : Int} {x : PV} (r : Reps K R a H vs xs) (h : atI xs i = some x) : ∃ v, atI vs i = some v ∧ Rep K R a H v x := by
  unfold atI at h ⊢
  rw [r.length]
  cases e : ixN xs.length i with
  | none => rw [e] at h; cases h
  | some j =>
    rw [e] at h
    exact r.get h
def notSlice : Expr → Bool
  | .Slice _ _ _ _ => false
  | _ => true
theorem plainIx {y : Expr} (h : notSlice y = true) : PlainIx y := by
  intro o i
  cases y <;> first | rfl | (simp [notSlice] at h)
theorem pe_idxV (ha : PE X x (tV T X.K n a)) (hb : PE X y (tV T X.K n b)) (hs : notSlice y = true) : PE X (.Subscript x y pos) (tV T X.K (n + 1) (.idx a b)) := by
  refine (pe_ix (r := fun x y H Q => rIxL X.K x y H Q ∨ rIxT X.K x y H Q) (ix_list.or ix_tup) ha hb (plainIx hs)).imp fun σ H Q hq => ?_
  obtain ⟨R, ad, env, S, w, S', A, e1, q⟩ := hq
  simp only [evE, Option.bind_eq_some_iff, Option.map_eq_some_iff] at e1
  obtain ⟨⟨v1, S1⟩, e1, ⟨v2, S2⟩, e2, v3, e3, e4⟩ := e1
  simp only [Prod.mk.injEq] at e4
  obtain ⟨rfl, rfl⟩ := e4
  refine ⟨R, ad, env, S, v1, S1, A, e1, fun u H1 k1 s1 r1 => ⟨R, ad, env, S1, v2, S2, A.keep k1 s1, e2, fun u2 H2 k2 s2 r2 => ?_⟩⟩
  by_cases hst : v1 = .stm
  · subst hst
    have e3 : stmV S2 v2 = some v3 := e3
    have ru : u = .ref ad := by cases (show Rep _ _ _ _ _ _ from r1); rfl
    subst ru
    unfold stmV at e3
    split at e3
    · simp only [Option.some.injEq] at e3
      subst e3
      obtain ⟨p, g1, g2, g3, g4⟩ := s2
      exact .inl ⟨ad, _, 0, .ref p, rfl, r2.int, SqL.of g1, rfl, q _ H2 (k1.trans k2) ⟨p, g1, g2, g3, g4⟩ (Rep.toE (.lst g2 g3 g4 (Reps.ofInts _)))⟩
    · simp only [Option.some.injEq] at e3
      subst e3
      obtain ⟨p, g1, g2, g3, g4⟩ := s2
      exact .inl ⟨ad, _, 1, .int _, rfl, r2.int, SqL.of g1, rfl, q _ H2 (k1.trans k2) ⟨p, g1, g2, g3, g4⟩ (Rep.toE (.int _))⟩
    · simp only [Option.some.injEq] at e3
      subst e3
      obtain ⟨p, g1, g2, g3, g4⟩ := s2
      exact .inl ⟨ad, _, 2, .int _, rfl, r2.int, SqL.of g1, rfl, q _ H2 (k1.trans k2) ⟨p, g1, g2, g3, g4⟩ (Rep.toE (.int _))⟩
    · cases e3
  replace e3 : idxV v1 v2 = some v3 := by cases v1 <;> first | exact absurd rfl hst | exact e3
  unfold idxV at e3
  split at e3
  · rename_i l i hl
    obtain ⟨p, vs, rfl, hp, rs⟩ := (r1.keep k2).seq hl
    obtain ⟨v, hv, rv⟩ := rs.at e3
    have fin := q v H2 (k1.trans k2) s2 rv.toE
    rcases hp with hp | hp
    · exact .inl ⟨p, vs, i, v, rfl, r2.int, SqL.of hp, hv, fin⟩
    · exact .inr ⟨p, vs, i, v, rfl, r2.int, SqT.of hp, hv, fin⟩
  · cases e3
def tPr (T : Tbl) (K : PySem.W.Frag) (n : Nat) (c : Option CE) : TO := fun σ H Q => ∃ R a env S x S', At K σ H R a env S ∧ parV (fun e S => evE T n e env S) c S = some (x, S') ∧ ∀ H', Keep a H H' → SRel K R a H' S' → Q x H'
theorem PO.imp {X : Cx} {e : Option Expr} {t t' : TO} (h : PO X e t) (m : ∀ σ H Q, t' σ H Q → t σ H Q) : PO X e t' := ⟨fun pins s σ H Q I q => h.run pins s σ H Q I (m σ H Q q)⟩
theorem po_ev {ck : Expr → CE → Bool} (ih : ∀ e c, ck e c = true → PE X e (tV T X.K n c)) : ∀ (e : Option Expr) (c : Option CE), chkO ck e c = true → PO X e (tPr T X.K n c)
  | none, none, _ => PO.imp po_none fun σ H Q h => by
    obtain ⟨R, a, env, S, xs, S', A, e, q⟩ := h
    simp only [parV, Option.some.injEq, Prod.mk.injEq] at e
    obtain ⟨rfl, rfl⟩ := e
    exact q H Keep.refl A.sr
  | some e, some c, h => PO.imp (po_some (ih e c h)) fun σ H Q h => by
    obtain ⟨R, a, env, S, xs, S', A, e, q⟩ := h
    simp only [parV, Option.bind_eq_some_iff] at e
    obtain ⟨⟨v1, S1⟩, e1, e2⟩ := e
    split at e2
    · rename_i i hi
      have hi : v1 = .int i := hi
      subst hi
      simp only [Option.some.injEq, Prod.mk.injEq] at e2
      obtain ⟨rfl, rfl⟩ := e2
      exact ⟨R, a, env, S, _, S1, A, e1, fun u H1 k1 s1 r1 => ⟨i, r1.int, q H1 k1 s1⟩⟩
    · cases e2
  | none, some _, h => by simp [chkO] at h
  | some _, none, h => by simp [chkO] at h
theorem Reps.cut {K : PySem.W.Frag} {R : Addr → Prop} {a : Addr} {H : Hp} {vs : List V} {xs : List PV} (r : Reps K R a H vs xs) (lo hi : Option Int) : Reps K R a H (cutV vs lo hi) (cutP xs lo hi) := by
  unfold cutV cutP
  rw [r.length]
  exact (r.drop _).take _
theorem cutP_whole {xs : List PV} {lo hi : Option Int} (h1 : HT.sIx xs.length 0 lo = 0) (h2 : HT.sIx xs.length xs.length hi = xs.length) : cutP xs lo hi = xs := by
  unfold cutP
  rw [h1, h2]
  simp
theorem pe_sliV {lo hi : Option Expr} {l h : Option CE} {p2 : Pos} (ha : PE X x (tV T X.K n a)) (hl : PO X lo (tPr T X.K n l)) (hh : PO X hi (tPr T X.K n h)) : PE X (.Subscript x (.Slice lo hi none p2) pos) (tV T X.K (n + 1) (.sli a l h)) := by
  refine (pe_slice (SlR.or sl_list sl_tupA) ha hl hh).imp fun σ H Q hq => ?_
  obtain ⟨R, ad, env, S, w, S', A, e1, q⟩ := hq
  simp only [evE, Option.bind_eq_some_iff, Option.map_eq_some_iff] at e1
  obtain ⟨⟨v1, S1⟩, e1, ⟨i, S2⟩, e2, ⟨j, S3⟩, e3, v3, e4, e5⟩ := e1
  simp only [Prod.mk.injEq] at e5
  obtain ⟨rfl, rfl⟩ := e5
  refine ⟨R, ad, env, S, v1, S1, A, e1, fun u H1 k1 s1 r1 => ⟨R, ad, env, S1, i, S2, A.keep k1 s1, e2, fun H2 k2 s2 => ⟨R, ad, env, S2, j, S3, (A.keep k1 s1).keep k2 s2, e3, fun H3 k3 s3 => ?_⟩⟩⟩
  have r3 := (r1.keep k2).keep k3
  have f3 := ((A.fr.keep k1).keep k2).keep k3
  have k := (k1.trans k2).trans k3
  unfold sliV at e4
  cases v1 with
  | tup m =>
    simp only [Option.some.injEq] at e4
    subst e4
    have r4 := r3
    obtain ⟨p, vs, rfl, hp, np, rs⟩ := r3.tup
    refine .inr ⟨p, vs, rfl, SqT.of hp, fun hw => ?_, fun _ => fin_tup f3 s3 (rs.cut i j) fun u4 H4 k4 s4 r4 => q u4 H4 (k.trans k4) s4 r4⟩
    rw [rs.length] at hw
    rw [cutP_whole hw.1 hw.2] at q
    exact q _ H3 k s3 r4
  | lst m =>
    simp only [Option.some.injEq] at e4
    subst e4
    obtain ⟨p, vs, rfl, hp, rs⟩ := r3.lst (l := m) rfl
    exact .inl ⟨p, vs, rfl, SqL.of hp, fin_lst f3 s3 (rs.cut i j) fun u4 H4 k4 s4 r4 => q u4 H4 (k.trans k4) s4 r4⟩
  | own m =>
    simp only [Option.some.injEq] at e4
    subst e4
    obtain ⟨p, vs, rfl, hp, rs⟩ := r3.lst (l := m) rfl
    exact .inl ⟨p, vs, rfl, SqL.of hp, fin_lst f3 s3 (rs.cut i j) fun u4 H4 k4 s4 r4 => q u4 H4 (k.trans k4) s4 r4⟩
  | _ => cases e4
/-- a built-in's call -/
theorem pe_biV {b : Bi} {es : List Expr} {l : List CE} {p : Pos} {ck : Expr → CE → Bool} (hr : Room 0 X.A) (hc : X.calm = true) (hg : Gl X (biName b)) (hm : X.mg (biName b) = none) (ha : PA X (y :: es) (tVs T X.K n l)) (ck1 : notStar y = true) (ck2 : (backTo pos (starEach es X.env)).any (·.1) = false) :
    PE X (.Call (.Name (biName b) p) (y :: es) [] pos) (tV T X.K (n + 1) (.bi b l)) := by
  obtain ⟨r, h1, h2⟩ := bi_ok (X := X) hr hc b
  have key : PE X (.Call (.Name (biName b) p) (y :: es) [] pos) (tCB r (tVs T X.K n l)) := by
    have hv := biBoot b
    cases b <;> first
      | exact pe_callB h1 hg hm hv ha (biN _) (biD _) (star1 ck1) ck2
      | exact pe_callTy h1 hg hm hv ha (biN _) (biD _) (star1 ck1) ck2
  refine key.imp fun σ H Q hq => ?_
  obtain ⟨R, ad, env, S, w, S', A, e1, q⟩ := hq
  simp only [evE, Option.bind_eq_some_iff, Option.map_eq_some_iff] at e1
  obtain ⟨⟨xs, S1⟩, e1, v, e2, e3⟩ := e1
  simp only [Prod.mk.injEq] at e3
  obtain ⟨rfl, rfl⟩ := e3
  exact ⟨R, ad, env, S, xs, S1, A, e1, fun vs H1 k1 s1 r1 => h2 (A.fr.keep k1) s1 r1 e2 fun u H2 k2 s2 r2 => q u H2 (k1.trans k2) s2 r2⟩
theorem RepsE.thaw {K : PySem.W.Frag} {R : Addr → Prop} {a : Addr} {H : Hp} (f : Fresh R a H) : ∀ {vs : List V} {xs : List PV}, RepsE K R a H vs xs → Reps K (fun b => b ≠ a) a H vs (xs.map PV.thaw)
  | _, _, .nil => .nil
  | _, _, .cons (x := x) r t => by
    refine .cons ?_ (RepsE.thaw f t)
    cases x with
    | own l =>
      obtain ⟨p, ws, rfl, h, np, q⟩ := r
      exact .lst h np np (q.mono f.le Keep.refl)
    | _ => exact Rep.mono f.le Keep.refl r
theorem thaw_id : ∀ {xs : List PV}, xs.all (fun x => !x.isOwn) = true → xs.map PV.thaw = xs
  | [], _ => rfl
  | x :: xs, h => by
    rw [List.all_cons, Bool.and_eq_true] at h
    rw [List.map_cons, thaw_id h.2]
    cases x <;> first | rfl | (simp [PV.isOwn] at h)
/-- a def's call -/
theorem pe_callV {f : Str} {φ : Nat × Fn} {es : List Expr} {l : List CE} {p : Pos} (hT : T.fn f = some φ) (F : FnT X f φ) (hg : Gl X f) (hd : (f == ("__debug__" : Str)) = false) (ha : PA X (y :: es) (tVs T X.K n l)) (ck1 : notStar y = true) (ck2 : (backTo pos (starEach es X.env)).any (·.1) = false) :
    PE X (.Call (.Name f p) (y :: es) [] pos) (tV T X.K (n + 1) (.call f l)) := by
  obtain ⟨pa, fd, ps, k, cx, h0, h1, h2, h3, h4, h5, h6⟩ := F.ex
  refine (pe_call (dvs := []) h4 h5 hg h1 h2 h3 .nil (h6 X rfl rfl) ha hd (star1 ck1) ck2).imp fun σ H Q hq => ?_
  obtain ⟨R, ad, env, S, w, S', A, e1, q⟩ := hq
  simp only [evE, Option.bind_eq_some_iff] at e1
  obtain ⟨φ', hφ, ⟨xs, S1⟩, e1, e2⟩ := e1
  rw [hT] at hφ
  cases hφ
  split at e2
  case isFalse => cases e2
  rename_i hl
  simp only [Option.bind_eq_some_iff] at e2
  obtain ⟨⟨o, S2⟩, e2, e3⟩ := e2
  cases o with
  | exc c ys => cases e3
  | ret x =>
    dsimp only at e3
    split at e3
    · rename_i hx
      simp only [Option.some.injEq, Prod.mk.injEq] at e3
      obtain ⟨rfl, rfl⟩ := e3
      refine ⟨R, ad, env, S, xs, S1, A, e1, fun vs H1 k1 s1 r1 => ?_⟩
      show spF X.K φ.1 φ.2 (vs ++ []) H1 Q E0
      rw [List.append_nil]
      rw [Bool.or_eq_true] at hx
      rcases hx with hx | hx
      · rw [thaw_id hx] at e2
        exact ⟨R, ad, xs, S1, .ret x, S2, A.fr.keep k1, r1.reps hx, s1, hl, e2, fun v H2 k2 s2 r2 => q v H2 (k1.trans k2) s2 r2.toE⟩
      · rw [Bool.and_eq_true] at hx
        refine ⟨_, ad, xs.map PV.thaw, S1, .ret x, S2, (A.fr.keep k1).any, r1.thaw (A.fr.keep k1), s1.mono (A.fr.le), by rw [List.length_map]; exact hl, e2, fun v H2 k2 s2 r2 => q v H2 (k1.trans k2) (s1.back k2 s2 hx.2) (r2.flat hx.1).toE⟩
    · cases e3
end
end Ws

/-! Ws8: targets, what is walked, comprehensions. -/
namespace Ws
open PySem PySem.Spec PyProof.Rows L2

/-! ### wiped slots -/
theorem wipe_get {σ : L2.St} {j : Nat} : ∀ {vs : List Nat}, (wipe σ vs)[j]? = if j ∈ vs ∧ j < σ.length then some none else σ[j]?
  | [] => by simp [wipe]
  | v :: vs => by
    unfold wipe
    have ih := wipe_get (σ := σ) (j := j) (vs := vs)
    by_cases h : v = j
    · subst h
      by_cases hl : v < σ.length
      · rw [List.getElem?_set_self (by rw [wipe_length]; exact hl), if_pos ⟨List.mem_cons_self, hl⟩]
      · rw [List.getElem?_eq_none (by rw [List.length_set, wipe_length]; omega), if_neg (fun z => hl z.2), List.getElem?_eq_none (by omega)]
    · rw [List.getElem?_set_ne h, ih]
      have hm : (j ∈ v :: vs ∧ j < σ.length) ↔ (j ∈ vs ∧ j < σ.length) := by
        rw [List.mem_cons]
        constructor
        · rintro ⟨h1 | h1, h2⟩
          · exact absurd h1.symm h
          · exact ⟨h1, h2⟩
        · rintro ⟨h1, h2⟩
          exact ⟨.inr h1, h2⟩
      simp only [hm]
theorem wipeE_get {env : Env} {j : Nat} : ∀ {vs : List Nat}, (wipeE env vs)[j]? = if j ∈ vs ∧ j < env.length then some none else env[j]?
  | [] => by simp [wipeE]
  | v :: vs => by
    unfold wipeE
    have ih := wipeE_get (env := env) (j := j) (vs := vs)
    have hlen : ∀ vs, (wipeE env vs).length = env.length := by
      intro vs
      induction vs with
      | nil => rfl
      | cons a l ih => unfold wipeE; rw [List.length_set, ih]
    by_cases h : v = j
    · subst h
      by_cases hl : v < env.length
      · rw [List.getElem?_set_self (by rw [hlen]; exact hl), if_pos ⟨List.mem_cons_self, hl⟩]
      · rw [List.getElem?_eq_none (by rw [List.length_set, hlen]; omega), if_neg (fun z => hl z.2), List.getElem?_eq_none (by omega)]
    · rw [List.getElem?_set_ne h, ih]
      have hm : (j ∈ v :: vs ∧ j < env.length) ↔ (j ∈ vs ∧ j < env.length) := by
        rw [List.mem_cons]
        constructor
        · rintro ⟨h1 | h1, h2⟩
          · exact absurd h1.symm h
          · exact ⟨h1, h2⟩
        · rintro ⟨h1, h2⟩
          exact ⟨.inr h1, h2⟩
      simp only [hm]
theorem wipeE_length {env : Env} : ∀ vs, (wipeE env vs).length = env.length
  | [] => rfl
  | a :: l => by unfold wipeE; rw [List.length_set, wipeE_length l]
theorem EnvE.wipe {K : PySem.W.Frag} {R : Addr → Prop} {a : Addr} {H : Hp} {σ : L2.St} {env : Env} (e : EnvE K R a H σ env) (vs : List Nat) : EnvE K R a H (wipe σ vs) (wipeE env vs) := by
  refine ⟨by rw [wipe_length, wipeE_length]; exact e.len, fun i x h => ?_⟩
  rw [wipeE_get] at h
  rw [wipe_get]
  split at h
  · cases h
  · rename_i hn
    rw [if_neg (by rw [e.len]; exact hn)]
    exact e.get i x h
theorem wipe_set {σ : L2.St} {vs : List Nat} {i : Nat} {v : Option V} (h : i ∈ vs) : L2.wipe (σ.set i v) vs = L2.wipe σ vs := by
  apply List.ext_getElem?
  intro j
  rw [wipe_get, wipe_get, List.length_set]
  by_cases hj : j ∈ vs ∧ j < σ.length
  · rw [if_pos hj, if_pos hj]
  · rw [if_neg hj, if_neg hj]
    by_cases e : i = j
    · subst e
      have : ¬ i < σ.length := fun z => hj ⟨h, z⟩
      rw [List.getElem?_eq_none (by rw [List.length_set]; omega), List.getElem?_eq_none (by omega)]
    · rw [List.getElem?_set_ne e]
theorem wipe_wipe {σ : L2.St} {vs : List Nat} : L2.wipe (L2.wipe σ vs) vs = L2.wipe σ vs := by
  apply List.ext_getElem?
  intro j
  rw [wipe_get, wipe_get, wipe_length]
  by_cases hj : j ∈ vs ∧ j < σ.length
  · rw [if_pos hj, if_pos hj]
  · rw [if_neg hj, if_neg hj]

/-! ### targets -/
def gNms : List Nat → TGs
  | [] => gNil
  | i :: l => gCons (gName i) (gNms l)
def gTg (K : PySem.W.Frag) : Tg → TG
  | .nm i => gName i
  | .tp l => fun v σ H Q => gTup K l.length (gNms l) v σ H Q ∨ gUnl K l.length (gNms l) v σ H Q
theorem pg_or {X : Cx} {e : Expr} {g1 g2 : TG} (h1 : PG X e g1) (h2 : PG X e g2) : PG X e (fun v σ H Q => g1 v σ H Q ∨ g2 v σ H Q) := ⟨fun pins s σ H v u Q I r h => h.elim (h1.run pins s σ H v u Q I r) (h2.run pins s σ H v u Q I r)⟩
section
variable {X : Cx} {N : List Str} {sc : Scope}
/-- the names that may be stored here -/
def Sto (X : Cx) (N : List Str) (sc : Scope) : Prop := X.N = N ∧ X.N.Nodup ∧ ∀ x, loc sc x = true → L2.Loc X.env.scope x ∧ (X.fn x = true ∨ X.env.scope.names.lookup x = some .local)
theorem pgs_ev (h : Sto X N sc) : ∀ (es : List Expr) (l : List Nat), chkTg.go N sc es l = true → PGs X es (gNms l) ∧ (assignEach es X.env).length = l.length ∧ (assignEach es X.env).findIdx? (·.1) = none
  | [], [], _ => ⟨pgs_nil, rfl, rfl⟩
  | e :: es, i :: l, hc => by
    cases e with
    | Name x p =>
      simp only [chkTg.go, Bool.and_eq_true] at hc
      obtain ⟨h1, h2, h3⟩ := pgs_ev h es l hc.2
      obtain ⟨hl, hf⟩ := h.2.2 x hc.1.2
      have hi : X.N[i]? = some x := by rw [h.1]; simpa using hc.1.1
      have e1 : assignEach (.Name x p :: es) X.env = (false, assign (.Name x p) X.env) :: assignEach es X.env := rfl
      refine ⟨pgs_cons (pg_name h.2.1 hi hl hf) h1, ?_, ?_⟩
      · rw [e1, List.length_cons, h2, List.length_cons]
      · rw [e1, List.findIdx?_cons]
        simp [h3]
    | _ => simp [chkTg.go] at hc
  | [], _ :: _, hc => by simp [chkTg.go] at hc
  | e :: _, [], hc => by cases e <;> simp [chkTg.go] at hc
theorem pg_ev (hc : X.calm = true) (h : Sto X N sc) {e : Expr} {t : Tg} (hk : chkTg N sc e t = true) : PG X e (gTg X.K t) := by
  cases e with
  | Name x p =>
    cases t with
    | nm i =>
      simp only [chkTg, Bool.and_eq_true] at hk
      obtain ⟨hl, hf⟩ := h.2.2 x hk.2
      exact pg_name h.2.1 (by rw [h.1]; simpa using hk.1) hl hf
    | tp l => simp [chkTg] at hk
  | Tuple es k p =>
    cases t with
    | nm i => simp [chkTg] at hk
    | tp l =>
      simp only [chkTg] at hk
      obtain ⟨h1, h2, h3⟩ := pgs_ev h es l hk
      exact pg_or (pg_tup hc h1 h2 h3) (pg_unl hc h1 h2 h3)
  | _ => cases t <;> simp [chkTg] at hk
end
section
variable {K : PySem.W.Frag} {R : Addr → Prop} {a : Addr} {H : Hp} {σ : L2.St} {env env' : Env}
theorem nms_ok {Q : L2.St → Hp → Prop} : ∀ (l : List Nat) {vs : List V} {xs : List PV} {σ : L2.St} {env : Env}, EnvE K R a H σ env → Reps K R a H vs xs → xs.length = l.length →
    (∀ σ', EnvE K R a H σ' ((l.zip xs).foldl (fun e p => e.set p.1 (some p.2)) env) → (∀ us, (∀ i ∈ l, i ∈ us) → L2.wipe σ' us = L2.wipe σ us) → Q σ' H) → gNms l vs σ H Q
  | [], vs, xs, σ, env, e, r, hl, q => by
    cases r with
    | nil => exact ⟨rfl, q σ e fun _ _ => rfl⟩
    | cons _ _ => simp at hl
  | i :: l, vs, xs, σ, env, e, r, hl, q => by
    cases r with
    | nil => simp at hl
    | cons r rs =>
      refine ⟨_, _, rfl, ?_⟩
      show gNms l _ (σ.set i (some _)) H Q
      refine nms_ok l (e.set r.toE i) rs (by simpa using hl) fun σ' e' hw => q σ' e' fun us hu => ?_
      rw [hw us fun j hj => hu j (List.mem_cons_of_mem _ hj), wipe_set (hu i List.mem_cons_self)]
theorem bind_ok {t : Tg} {v : V} {x : PV} {Q : L2.St → Hp → Prop} (e : EnvE K R a H σ env) (r : RepE K R a H v x) (hb : bindT t x env = some env')
    (q : ∀ σ', EnvE K R a H σ' env' → (∀ us, (∀ i ∈ tgIx t, i ∈ us) → L2.wipe σ' us = L2.wipe σ us) → Q σ' H) : gTg K t v σ H Q := by
  cases t with
  | nm i =>
    simp only [bindT] at hb
    split at hb
    · cases hb
    · simp only [Option.some.injEq] at hb
      subst hb
      exact q _ (e.set r i) fun us hu => wipe_set (hu i (by simp [tgIx]))
  | tp l =>
    simp only [bindT] at hb
    split at hb
    · rename_i xs
      split at hb
      · rename_i hl
        simp only [Option.some.injEq] at hb
        subst hb
        obtain ⟨p, vs, rfl, h1, n1, rs⟩ := r.tup
        refine .inl ⟨p, vs, rfl, SqT.of h1, by rw [rs.length]; exact hl, ?_⟩
        exact nms_ok l e rs hl fun σ' e' hw => q σ' e' hw
      · cases hb
    · rename_i xs
      split at hb
      · rename_i hl
        simp only [Option.some.injEq] at hb
        subst hb
        cases (show Rep K R a H v (.lst xs) from r) with
        | lst h1 n1 q1 rs =>
          refine .inr ⟨_, _, rfl, SqL.of h1, by rw [rs.length]; exact hl, ?_⟩
          exact nms_ok l e rs hl fun σ' e' hw => q σ' e' hw
      · cases hb
    · cases hb
end

/-! ### what is walked -/
inductive ItOk (K : PySem.W.Frag) (R : Addr → Prop) (a : Addr) (H : Hp) (ok : Bool) : It → List PV → Prop where
  | lst {p : Addr} {vs : List V} {xs : List PV} : H p = some (.lst vs) → p ≠ a → (ok = true ∨ R p) → Reps K R a H vs xs → ItOk K R a H ok (Itl K p) xs
  | tup {p : Addr} {vs : List V} {xs : List PV} : H p = some (.tup vs) → p ≠ a → Reps K R a H vs xs → ItOk K R a H ok (Itt K p) xs
  | rng (lo : Int) (n : Nat) : ItOk K R a H ok (Itr lo n) ((List.range n).map fun (k : Nat) => PV.int (lo + (k : Int)))
  | zipL {p p2 : Addr} {vs ws : List V} {xs ys : List PV} : H p = some (.lst vs) → p ≠ a → (ok = true ∨ R p) → H p2 = some (.lst ws) → p2 ≠ a → (ok = true ∨ R p2) → Reps K R a H vs xs → Reps K R a H ws ys → ItOk K R a H ok (Itz K p p2) (zipV xs ys)
  | zipT {p p2 : Addr} {vs ws : List V} {xs ys : List PV} : H p = some (.tup vs) → p ≠ a → H p2 = some (.tup ws) → p2 ≠ a → Reps K R a H vs xs → Reps K R a H ws ys → ItOk K R a H ok (RZ.ItzT K p p2) (zipV xs ys)
  | comb {vs : List V} {xs : List PV} {k : Int} {l : List PV} : Reps K R a H vs xs → combV xs k = some l → ItOk K R a H ok (Cb.ItC vs k.toNat) l
  | enum {p : Addr} {vs : List V} {xs : List PV} : H p = some (.lst vs) → p ≠ a → (ok = true ∨ R p) → Reps K R a H vs xs → ItOk K R a H ok (Ite K p) (enumV xs)
/-- what a turn leaves -/
def NewOr (H H' : Hp) : Prop := H' = H ∨ ∃ p l, H p = none ∧ H' = upd H p (.tup l)
theorem NewOr.keep {a : Addr} {H H' : Hp} (n : NewOr H H') : Keep a H H' := by
  rcases n with rfl | ⟨p, l, h, rfl⟩
  · exact Keep.refl
  · exact Keep.upd h
theorem NewOr.srel {K : PySem.W.Frag} {R : Addr → Prop} {a : Addr} {H H' : Hp} {S : Strm} (n : NewOr H H') (s : SRel K R a H S) : SRel K R a H' S := by
  rcases n with rfl | ⟨p, l, h, rfl⟩
  · exact s
  · exact s.upd h
/-- zip of two tuples -/
theorem walk_zipT {K : PySem.W.Frag} {p p2 : Addr} {xs ys : List V} {n : Nat} (hn : n = min xs.length ys.length) : Walk (RZ.ItzT K p p2) n (fun H => SqT K H p xs ∧ SqT K H p2 ys) (YPair (fun i => xs[i]?) (fun i => ys[i]?)) := by
  subst hn
  refine ⟨fun i _ hi q => ?_, fun _ q => ⟨xs, ys, q.1, q.2, by omega⟩, fun i H v H' _ q y => ?_⟩
  · have h1 : i < xs.length := by omega
    have h2 : i < ys.length := by omega
    exact ⟨xs, ys, xs[i], ys[i], q.1, q.2, by simp [h1], by simp [h2]⟩
  · obtain ⟨T, x, z, h1, h2, h3, h4, h5⟩ := y
    exact ⟨T, x, z, h1, h2, h3, h4 xs q.1, h5 ys q.2⟩
theorem zipV_get {xs ys : List PV} {i : Nat} {x y : PV} (hx : xs[i]? = some x) (hy : ys[i]? = some y) : (zipV xs ys)[i]? = some (.tup [x, y]) := by
  unfold zipV
  have e : (xs.zip ys)[i]? = some (x, y) := List.getElem?_zip_eq_some.mpr ⟨hx, hy⟩
  rw [List.getElem?_map, e]
  rfl
/-! combinations -/
def sqC (n : Nat) (s : Option (List Nat)) : Nat → Option (List Nat)
  | 0 => s
  | i + 1 => (sqC n s i).bind (nextC n)
theorem sqC_shift (n : Nat) (s : Option (List Nat)) : ∀ i, sqC n s (i + 1) = sqC n (s.bind (nextC n)) i
  | 0 => rfl
  | i + 1 => by
    show (sqC n s (i + 1)).bind (nextC n) = (sqC n (s.bind (nextC n)) i).bind (nextC n)
    rw [sqC_shift n s i]
theorem sqC_none (n : Nat) : ∀ i, sqC n none i = none
  | 0 => rfl
  | i + 1 => by
    show (sqC n none i).bind (nextC n) = none
    rw [sqC_none n i]; rfl
theorem cbFrom_at {n : Nat} : ∀ (f : Nat) (s : Option (List Nat)) (js : List (List Nat)), cbFrom n f s = some js → ∀ i, sqC n s i = js[i]?
  | f, none, js, h, i => by
    have e : js = [] := by cases f <;> (simp only [cbFrom, Option.some.injEq] at h; exact h.symm)
    subst e
    rw [sqC_none]; rfl
  | 0, some j, js, h, i => by simp [cbFrom] at h
  | f + 1, some j, js, h, i => by
    simp only [cbFrom, Option.map_eq_some_iff] at h
    obtain ⟨ks, h1, rfl⟩ := h
    cases i with
    | zero => rfl
    | succ i =>
      rw [sqC_shift]
      exact cbFrom_at f (nextC n j) ks h1 i
theorem cbSeq_sq (n r : Nat) : ∀ i, Cb.cbSeq n r i = sqC n (if r > n then none else some (List.range r)) i
  | 0 => rfl
  | i + 1 => by
    show (Cb.cbSeq n r i).bind (Cb.nextC n) = (sqC n _ i).bind (nextC n)
    rw [cbSeq_sq n r i]; rfl
theorem combV_at {xs : List PV} {k : Int} {l : List PV} (h : combV xs k = some l) : ∃ js : List (List Nat), l = js.map (fun j => PV.tup (j.map fun i => xs.getD i .non)) ∧ ∀ i, Cb.cbSeq xs.length k.toNat i = js[i]? := by
  unfold combV at h
  split at h
  · simp only [Option.map_eq_some_iff] at h
    obtain ⟨js, h1, rfl⟩ := h
    exact ⟨js, rfl, fun i => by rw [cbSeq_sq]; exact cbFrom_at _ _ _ h1 i⟩
  · cases h
theorem Reps.getD {K : PySem.W.Frag} {R : Addr → Prop} {a : Addr} {H : Hp} {vs : List V} {xs : List PV} (r : Reps K R a H vs xs) (k : Nat) : Rep K R a H (vs.getD k .non) (xs.getD k .non) := by
  rw [List.getD_eq_getElem?_getD, List.getD_eq_getElem?_getD]
  cases h : xs[k]? with
  | none =>
    have : vs[k]? = none := by
      rw [List.getElem?_eq_none_iff] at h ⊢
      rw [r.length]; exact h
    rw [this]; exact .non
  | some x =>
    obtain ⟨v, h1, h2⟩ := r.get h
    rw [h1]; exact h2
theorem Reps.picks {K : PySem.W.Frag} {R : Addr → Prop} {a : Addr} {H : Hp} {vs : List V} {xs : List PV} (r : Reps K R a H vs xs) : ∀ j : List Nat, Reps K R a H (j.map fun k => vs.getD k .non) (j.map fun k => xs.getD k .non)
  | [] => .nil
  | k :: j => .cons (r.getD k) (Reps.picks r j)
theorem enumV_get {xs : List PV} {i : Nat} {x : PV} (hx : xs[i]? = some x) : (enumV xs)[i]? = some (.tup [.int i, x]) := by
  unfold enumV
  have hi : i < xs.length := (List.getElem?_eq_some_iff.mp hx).1
  rw [List.getElem?_map, List.getElem?_range hi, Option.map_some, List.getD_eq_getElem?_getD, hx]
  rfl
theorem ItOk.walk {K : PySem.W.Frag} {R : Addr → Prop} {a : Addr} {H : Hp} {ok : Bool} {J : It} {xs : List PV} (h : ItOk K R a H ok J xs) : ∃ G Y, Walk J xs.length G Y ∧
    (∀ H', (∀ b o, H b = some o → b ≠ a → (ok = true ∨ R b ∨ ∃ vs, o = .tup vs) → H' b = some o) → G H') ∧
    ∀ (R' : Addr → Prop) (H' : Hp), Fresh R' a H' → (∀ vs xs, Reps K R a H vs xs → Reps K R' a H' vs xs) → ∀ i x H'', i < xs.length → Y i H' x H'' → NewOr H' H'' ∧ ∃ y, xs[i]? = some y ∧ Rep K R' a H'' x y := by
  cases h with
  | @lst p vs _ h1 h2 h3 h4 =>
    refine ⟨_, _, by rw [← h4.length]; exact walk_list (K := K) (a := p) (xs := vs), fun H' k => SqL.of (k p _ h1 h2 (h3.elim .inl fun z => .inr (.inl z))), fun R' H' f tr i x H'' hi y => ?_⟩
    obtain ⟨rfl, hx⟩ := y
    obtain ⟨z, hz, rz⟩ := (tr _ _ h4).getV hx
    exact ⟨.inl rfl, z, hz, rz⟩
  | @tup p vs _ h1 h2 h4 =>
    refine ⟨_, _, by rw [← h4.length]; exact walk_tup (K := K) (a := p) (xs := vs), fun H' k => SqT.of (k p _ h1 h2 (.inr (.inr ⟨_, rfl⟩))), fun R' H' f tr i x H'' hi y => ?_⟩
    obtain ⟨rfl, hx⟩ := y
    obtain ⟨z, hz, rz⟩ := (tr _ _ h4).getV hx
    exact ⟨.inl rfl, z, hz, rz⟩
  | rng lo n =>
    have e : ((List.range n).map fun (k : Nat) => PV.int (lo + (k : Int))).length = n := by simp
    refine ⟨_, _, by rw [e]; exact walk_range (lo := lo) (n := n), fun H' k => trivial, fun R' H' f tr i x H'' hi y => ?_⟩
    obtain ⟨rfl, rfl⟩ := y
    rw [e] at hi
    exact ⟨.inl rfl, _, by rw [List.getElem?_map, List.getElem?_range hi]; rfl, .int _⟩
  | @zipL p p2 vs ws xs ys h1 h2 h3 h1' h2' h3' h4 h4' =>
    have e : (zipV xs ys).length = min vs.length ws.length := by unfold zipV; rw [List.length_map, List.length_zip, h4.length, h4'.length]
    refine ⟨_, _, walk_zip (K := K) (a := p) (b := p2) (xs := vs) (ys := ws) e, fun H' k => ⟨SqL.of (k p _ h1 h2 (h3.elim .inl fun z => .inr (.inl z))), SqL.of (k p2 _ h1' h2' (h3'.elim .inl fun z => .inr (.inl z)))⟩, fun R' H' f tr i x H'' hi y => ?_⟩
    obtain ⟨Tt, u, w, rfl, hT, rfl, hu, hw⟩ := y
    obtain ⟨z, hz, rz⟩ := (tr _ _ h4).getV hu
    obtain ⟨z', hz', rz'⟩ := (tr _ _ h4').getV hw
    exact ⟨.inr ⟨Tt, _, hT, rfl⟩, _, zipV_get hz hz', .tup upd_same (f.ne hT) (.cons (rz.keep (Keep.upd hT)) (.cons (rz'.keep (Keep.upd hT)) .nil))⟩
  | @zipT p p2 vs ws xs ys h1 h2 h1' h2' h4 h4' =>
    have e : (zipV xs ys).length = min vs.length ws.length := by unfold zipV; rw [List.length_map, List.length_zip, h4.length, h4'.length]
    refine ⟨_, _, walk_zipT (K := K) (p := p) (p2 := p2) (xs := vs) (ys := ws) e, fun H' k => ⟨SqT.of (k p _ h1 h2 (.inr (.inr ⟨_, rfl⟩))), SqT.of (k p2 _ h1' h2' (.inr (.inr ⟨_, rfl⟩)))⟩, fun R' H' f tr i x H'' hi y => ?_⟩
    obtain ⟨Tt, u, w, rfl, hT, rfl, hu, hw⟩ := y
    obtain ⟨z, hz, rz⟩ := (tr _ _ h4).getV hu
    obtain ⟨z', hz', rz'⟩ := (tr _ _ h4').getV hw
    exact ⟨.inr ⟨Tt, _, hT, rfl⟩, _, zipV_get hz hz', .tup upd_same (f.ne hT) (.cons (rz.keep (Keep.upd hT)) (.cons (rz'.keep (Keep.upd hT)) .nil))⟩
  | @comb vs xs k l h1 h2 =>
    obtain ⟨js, rfl, hs⟩ := combV_at h2
    have hl := h1.length
    refine ⟨fun _ => True, fun i H v H' => ∃ (Tt : Addr) (j : List Nat), v = .ref Tt ∧ H Tt = none ∧ H' = upd H Tt (.tup (j.map fun k => vs.getD k .non)) ∧ js[i]? = some j, ⟨fun i H hi _ => ?_, fun H _ => ?_, fun i H v H' hi _ y => ?_⟩, fun _ _ => trivial, fun R' H' f tr i x H'' hi y => ?_⟩
    · rw [List.length_map] at hi
      exact ⟨_, by rw [hl, hs i]; exact List.getElem?_eq_getElem hi⟩
    · show Cb.cbSeq vs.length k.toNat _ = none
      rw [hl, hs]
      simp
    · obtain ⟨Tt, j, e1, e2, e3, e4⟩ := y
      rw [hl, hs] at e4
      exact ⟨Tt, j, e1, e2, e3, e4⟩
    · obtain ⟨Tt, j, rfl, hT, rfl, hj⟩ := y
      refine ⟨.inr ⟨Tt, _, hT, rfl⟩, _, by rw [List.getElem?_map, hj]; rfl, ?_⟩
      exact .tup upd_same (f.ne hT) (((tr _ _ h1).picks j).keep (Keep.upd hT))
  | @enum p vs xs h1 h2 h3 h4 =>
    have e : (enumV xs).length = vs.length := by unfold enumV; rw [List.length_map, List.length_range, h4.length]
    refine ⟨_, _, by rw [e]; exact walk_enum (K := K) (a := p) (xs := vs), fun H' k => SqL.of (k p _ h1 h2 (h3.elim .inl fun z => .inr (.inl z))), fun R' H' f tr i x H'' hi y => ?_⟩
    obtain ⟨Tt, u, w, rfl, hT, rfl, hu, hw⟩ := y
    simp only [Option.some.injEq] at hu
    subst hu
    obtain ⟨z', hz', rz'⟩ := (tr _ _ h4).getV hw
    exact ⟨.inr ⟨Tt, _, hT, rfl⟩, _, enumV_get hz', .tup upd_same (f.ne hT) (.cons (.int _) (.cons (rz'.keep (Keep.upd hT)) .nil))⟩
end Ws

/-! Ws9: iterables, comprehensions, and every expression. -/
namespace Ws
open PySem PySem.Spec PyProof.Rows L2

section
variable {X : Cx} {tg : Expr}
def iSeq (K : PySem.W.Frag) (tl : TE) : TI := fun σ H R => tl σ H fun x H1 => (∃ a xs, x = .ref a ∧ SqL K H1 a xs ∧ R (Itl K a) H1) ∨ (∃ a xs, x = .ref a ∧ SqT K H1 a xs ∧ R (Itt K a) H1)
theorem pi_seq {l : Expr} {tl : TE} (hl : PE X l tl) : PI X tg l (iSeq X.K tl) := by
  refine ⟨fun pins s σ H R I h => ?_⟩
  refine thn (hl.run pins s σ H _ I h) fun v s1 ⟨x, H1, I1, r1, q1⟩ => ?_
  rcases q1 with ⟨a, xs, e, hq, q⟩ | ⟨a, xs, e, hq, q⟩
  · subst e
    cases r1
    obtain ⟨its, rv, p, hz⟩ := I1.list hq
    refine wpAny_pyIter_list p.isList ?_
    refine ⟨s1.heap.objs.size, [s1.heap.objs.size], _, _, H1, rfl, I1.kept (t' := s1.toks) fun b o e => Heap.get?_push_of_some _ e, turn_list a _, ⟨_, Heap.get?_push_size _ rfl, rfl, rfl⟩, fun b hb => ?_, q⟩
    have e : b = s1.heap.objs.size := by simpa using hb
    subst e
    exact I1.fpOk (Nat.le_refl _) (I1.hok.fresh (Nat.le_refl _))
  · subst e
    cases r1
    obtain ⟨its, rv, p, hz⟩ := I1.tuple hq
    refine wpAny_pyIter_tuple (show s1.heap.IsTuple a its.toArray from p) ?_
    refine ⟨s1.heap.objs.size, [s1.heap.objs.size], _, _, H1, rfl, I1.kept (t' := s1.toks) fun b o e => Heap.get?_push_of_some _ e, turn_tuple a _, ⟨_, Heap.get?_push_size _ rfl, rfl, rfl⟩, fun b hb => ?_, q⟩
    have e : b = s1.heap.objs.size := by simpa using hb
    subst e
    exact I1.fpOk (Nat.le_refl _) (I1.hok.fresh (Nat.le_refl _))
theorem _root_.L2.PI.imp {e : Expr} {t t' : TI} (h : PI X tg e t) (m : ∀ σ H Q, t' σ H Q → t σ H Q) : PI X tg e t' := ⟨fun pins s σ H Q I q => h.run pins s σ H Q I (m σ H Q q)⟩
end
section
variable {T : Tbl} {X : Cx} {n : Nat} {x y z : Expr} {a b d : CE} {pos p : Pos}
def tI (T : Tbl) (K : PySem.W.Frag) (ok : Bool) (n : Nat) (it : CI) : TI := fun σ H Rk => ∃ R a env S xs S', At K σ H R a env S ∧ itV ok (fun e S => evE T n e env S) it S = some (xs, S') ∧ ∀ J H', Keep a H H' → SRel K R a H' S' → ItOk K R a H' ok J xs → Rk J H'
theorem pi_seqV {ok : Bool} {tg : Expr} (ha : PE X x (tV T X.K n a)) : PI X tg x (tI T X.K ok n (.seq a)) := by
  refine (pi_seq ha).imp fun σ H Q hq => ?_
  obtain ⟨R, ad, env, S, xs, S', A, e1, q⟩ := hq
  simp only [itV, Option.bind_eq_some_iff] at e1
  obtain ⟨⟨v1, S1⟩, e1, e2⟩ := e1
  split at e2
  case isFalse => cases e2
  rename_i hok
  simp only [Option.map_eq_some_iff] at e2
  obtain ⟨l, h1, h2⟩ := e2
  simp only [Prod.mk.injEq] at h2
  obtain ⟨rfl, rfl⟩ := h2
  refine ⟨R, ad, env, S, v1, S1, A, e1, fun u H1 k1 s1 r1 => ?_⟩
  cases v1 with
  | tup m =>
    simp only [PV.seq?, Option.some.injEq] at h1
    subst h1
    obtain ⟨p, vs, rfl, hp, np, rs⟩ := r1.tup
    exact .inr ⟨p, vs, rfl, SqT.of hp, q _ H1 k1 s1 (.tup hp np rs)⟩
  | lst m =>
    simp only [PV.seq?, Option.some.injEq] at h1
    subst h1
    cases (show Rep _ _ _ _ _ _ from r1) with
    | lst hp np hR rs => exact .inl ⟨_, _, rfl, SqL.of hp, q _ H1 k1 s1 (.lst hp np (.inr hR) rs)⟩
  | own m =>
    simp only [PV.seq?, Option.some.injEq] at h1
    subst h1
    obtain ⟨p, vs, rfl, hp, np, rs⟩ := r1
    refine .inl ⟨_, _, rfl, SqL.of hp, q _ H1 k1 s1 (.lst hp np (.inl ?_) rs)⟩
    simpa [PV.isOwn] using hok
  | _ => simp [PV.seq?] at h1
theorem inR_of {i : Int} (h : inR i = true) : -(2 ^ 62) ≤ i ∧ i < 2 ^ 62 := by simpa [inR] using h
theorem pi_rng1V {ok : Bool} {tg : Expr} (hg : Gl X "range") (hm : X.mg "range" = none) (ha : PE X x (tV T X.K n a)) (hs : notStar x = true) : PI X tg (.Call (.Name "range" p) [x] [] pos) (tI T X.K ok n (.rng1 a)) := by
  refine (pi_range1 hg hm (pa_cons ha pa_nil (star1 hs)) (star1 hs)).imp fun σ H Q hq => ?_
  obtain ⟨R, ad, env, S, xs, S', A, e1, q⟩ := hq
  simp only [itV, Option.bind_eq_some_iff] at e1
  obtain ⟨⟨v1, S1⟩, e1, e2⟩ := e1
  split at e2
  case h_2 => cases e2
  rename_i j hj
  have hj : v1 = .int j := hj
  subst hj
  split at e2
  case isFalse => cases e2
  rename_i hr
  simp only [Option.some.injEq, Prod.mk.injEq] at e2
  obtain ⟨rfl, rfl⟩ := e2
  refine ⟨R, ad, env, S, _, S1, A, e1, fun u H1 k1 s1 r1 => ⟨j, by rw [r1.int], (inR_of hr).1, (inR_of hr).2, q _ H1 k1 s1 ?_⟩⟩
  have e : rangeV 0 j = (List.range j.toNat).map fun (k : Nat) => PV.int (0 + (k : Int)) := by unfold rangeV; rw [Int.sub_zero]
  rw [e]
  exact .rng 0 j.toNat
theorem pi_rng2V {ok : Bool} {tg : Expr} (hg : Gl X "range") (hm : X.mg "range" = none) (ha : PE X x (tV T X.K n a)) (hb : PE X y (tV T X.K n b)) (hs : notStar x = true) (hs2 : notStar y = true) : PI X tg (.Call (.Name "range" p) [x, y] [] pos) (tI T X.K ok n (.rng2 a b)) := by
  refine (pi_range2 hg hm (pa_cons ha (pa_cons hb pa_nil (star1 hs2)) (star1 hs)) (by rw [star1 hs, star1 hs2]; rfl) (star1 hs2)).imp fun σ H Q hq => ?_
  obtain ⟨R, ad, env, S, xs, S', A, e1, q⟩ := hq
  simp only [itV, Option.bind_eq_some_iff] at e1
  obtain ⟨⟨v1, S1⟩, e1, ⟨v2, S2⟩, e2, e3⟩ := e1
  split at e3
  case h_2 => cases e3
  rename_i i j hi hj
  have hi : v1 = .int i := hi
  have hj : v2 = .int j := hj
  subst hi
  subst hj
  split at e3
  case isFalse => cases e3
  rename_i hr
  rw [Bool.and_eq_true] at hr
  simp only [Option.some.injEq, Prod.mk.injEq] at e3
  obtain ⟨rfl, rfl⟩ := e3
  exact ⟨R, ad, env, S, _, S1, A, e1, fun u H1 k1 s1 r1 => ⟨R, ad, env, S1, _, S2, A.keep k1 s1, e2, fun u2 H2 k2 s2 r2 =>
    ⟨i, j, by rw [r1.int, r2.int], ⟨(inR_of hr.1).1, (inR_of hr.1).2, (inR_of hr.2).1, (inR_of hr.2).2⟩, q _ H2 (k1.trans k2) s2 (.rng i (j - i).toNat)⟩⟩⟩
theorem pe_revV {k : Nat} {p1 p2 p3 : Pos} (ha : PE X x (tV T X.K n a)) : PE X (.Subscript x (.Slice none none (some (.UnaryOp .USub (.Constant (.int 1) k p1) p2)) p3) pos) (tV T X.K (n + 1) (.rev a)) := by
  refine ⟨fun pins s σ H Q I hq => ?_⟩
  obtain ⟨R, ad, env, S, z, S', A, e1, q⟩ := hq
  simp only [evE, Option.bind_eq_some_iff] at e1
  obtain ⟨⟨v1, S1⟩, e1, e2⟩ := e1
  cases v1 with
  | tup l =>
    simp only [revV, Option.some.injEq, Prod.mk.injEq] at e2
    obtain ⟨rfl, rfl⟩ := e2
    refine (pe_revT (k := k) (p1 := p1) (p2 := p2) (p3 := p3) (pos := pos) ha).run pins s σ H Q I ⟨R, ad, env, S, _, S1, A, e1, fun u H1 k1 s1 r1 => ?_⟩
    obtain ⟨p, vs, rfl, hp, np, rs⟩ := r1.tup
    exact ⟨p, vs, rfl, SqT.of hp, fun r hr => fin_tup (A.keep k1 s1).fr s1 rs.reverse (fun u2 H2 k2 s2 r2 => q u2 H2 (k1.trans k2) s2 r2) r hr⟩
  | lst l =>
    simp only [revV, Option.some.injEq, Prod.mk.injEq] at e2
    obtain ⟨rfl, rfl⟩ := e2
    refine (pe_revL (k := k) (p1 := p1) (p2 := p2) (p3 := p3) (pos := pos) ha).run pins s σ H Q I ⟨R, ad, env, S, _, S1, A, e1, fun u H1 k1 s1 r1 => ?_⟩
    obtain ⟨p, vs, rfl, hp, rs⟩ := r1.lst (l := l) rfl
    exact ⟨p, vs, rfl, SqL.of hp, fun r hr => fin_lst (A.keep k1 s1).fr s1 rs.reverse (fun u2 H2 k2 s2 r2 => q u2 H2 (k1.trans k2) s2 r2) r hr⟩
  | own l =>
    simp only [revV, Option.some.injEq, Prod.mk.injEq] at e2
    obtain ⟨rfl, rfl⟩ := e2
    refine (pe_revL (k := k) (p1 := p1) (p2 := p2) (p3 := p3) (pos := pos) ha).run pins s σ H Q I ⟨R, ad, env, S, _, S1, A, e1, fun u H1 k1 s1 r1 => ?_⟩
    obtain ⟨p, vs, rfl, hp, rs⟩ := r1.lst (l := l) rfl
    exact ⟨p, vs, rfl, SqL.of hp, fun r hr => fin_lst (A.keep k1 s1).fr s1 rs.reverse (fun u2 H2 k2 s2 r2 => q u2 H2 (k1.trans k2) s2 r2) r hr⟩
  | _ => simp [revV] at e2
theorem reps_rg {K : PySem.W.Frag} {R : Addr → Prop} {ad : Addr} {H : Hp} (i j : Int) : Reps K R ad H (rgV i j) (rangeV i j) := by
  have key : ∀ l : List Nat, Reps K R ad H (l.map fun k : Nat => V.int (i + (k : Nat))) (l.map fun k : Nat => PV.int (i + (k : Int))) := by
    intro l
    induction l with
    | nil => exact .nil
    | cons x l ih => exact .cons (.int _) ih
  exact key _
theorem rgS_of {t : Bool} {i j : Int} {z : PV} (h : rgS t i j = some z) : RgOk i j ∧ z = if t then .tup (rangeV i j) else .lst (rangeV i j) := by
  unfold rgS at h
  split at h
  case isFalse => cases h
  rename_i hr
  simp only [Bool.and_eq_true, decide_eq_true_eq] at hr
  simp only [Option.some.injEq] at h
  exact ⟨⟨(inR_of hr.1.1).1, (inR_of hr.1.1).2, (inR_of hr.1.2).1, (inR_of hr.1.2).2, by have := hr.2; unfold LIM at this; omega⟩, h.symm⟩
theorem pe_rg1V {t : Bool} {f : Str} {p1 p2 p3 p4 : Pos} (hf : f = if t then ("tuple" : Str) else "list") (hc : X.calm = true) (hg : Gl X f) (hm : X.mg f = none) (hg2 : Gl X "range") (hm2 : X.mg "range" = none) (hb : PE X x (tV T X.K n a)) (hs : notStar x = true) :
    PE X (.Call (.Name f p1) [.Call (.Name "range" p2) [x] [] p3] [] p4) (tV T X.K (n + 1) (.rg1 t a)) := by
  have rg := prg_1 (p := p2) (pos := p3) hg2 hm2 hb (star1 hs)
  have fin : ∀ {σ : L2.St} {H : Hp} {Q : VK}, tV T X.K (n + 1) (.rg1 t a) σ H Q → (if t then tTupRg (tRg1 (tV T X.K n a)) else tLstRg (tRg1 (tV T X.K n a))) σ H Q := by
    intro σ H Q ⟨R, ad, env, S, z, S', A, e1, q⟩
    simp only [evE, Option.bind_eq_some_iff] at e1
    obtain ⟨⟨v1, S1⟩, e1, e2⟩ := e1
    unfold rgV1 at e2
    split at e2
    case h_2 => cases e2
    rename_i j hj
    have hj : v1 = .int j := hj
    subst hj
    simp only [Option.map_eq_some_iff] at e2
    obtain ⟨w, e2, e3⟩ := e2
    simp only [Prod.mk.injEq] at e3
    obtain ⟨rfl, rfl⟩ := e3
    obtain ⟨ok, rfl⟩ := rgS_of e2
    cases t with
    | true => exact ⟨R, ad, env, S, _, S1, A, e1, fun u H1 k1 s1 r1 => ⟨j, r1.int, ok, fun r hr => fin_tup (A.keep k1 s1).fr s1 (reps_rg 0 j) (fun u2 H2 k2 s2 r2 => q u2 H2 (k1.trans k2) s2 r2) r hr⟩⟩
    | false => exact ⟨R, ad, env, S, _, S1, A, e1, fun u H1 k1 s1 r1 => ⟨j, r1.int, ok, fun r hr => fin_lst (A.keep k1 s1).fr s1 (reps_rg 0 j) (fun u2 H2 k2 s2 r2 => q u2 H2 (k1.trans k2) s2 r2) r hr⟩⟩
  subst hf
  cases t with
  | true => exact (pe_tupRg hc hg hm rg).imp fun σ H Q h => fin h
  | false => exact (pe_listRg hc hg hm rg).imp fun σ H Q h => fin h
theorem pe_rg2V {t : Bool} {f : Str} {p1 p2 p3 p4 : Pos} (hf : f = if t then ("tuple" : Str) else "list") (hc : X.calm = true) (hg : Gl X f) (hm : X.mg f = none) (hg2 : Gl X "range") (hm2 : X.mg "range" = none) (ha : PE X x (tV T X.K n a)) (hb : PE X y (tV T X.K n b)) (hs : notStar x = true) (hs2 : notStar y = true) :
    PE X (.Call (.Name f p1) [.Call (.Name "range" p2) [x, y] [] p3] [] p4) (tV T X.K (n + 1) (.rg2 t a b)) := by
  have rg := prg_2 (p := p2) (pos := p3) hg2 hm2 ha hb (star1 hs) (star1 hs2) (by rw [star1 hs2]; rfl)
  have fin : ∀ {σ : L2.St} {H : Hp} {Q : VK}, tV T X.K (n + 1) (.rg2 t a b) σ H Q → (if t then tTupRg (tRg2 (tV T X.K n a) (tV T X.K n b)) else tLstRg (tRg2 (tV T X.K n a) (tV T X.K n b))) σ H Q := by
    intro σ H Q ⟨R, ad, env, S, z, S', A, e1, q⟩
    simp only [evE, Option.bind_eq_some_iff] at e1
    obtain ⟨⟨v1, S1⟩, e1, ⟨v2, S2⟩, e2, e3⟩ := e1
    unfold rgV2 at e3
    split at e3
    case h_2 => cases e3
    rename_i i j hi hj
    have hi : v1 = .int i := hi
    have hj : v2 = .int j := hj
    subst hi
    subst hj
    simp only [Option.map_eq_some_iff] at e3
    obtain ⟨w, e3, e4⟩ := e3
    simp only [Prod.mk.injEq] at e4
    obtain ⟨rfl, rfl⟩ := e4
    obtain ⟨ok, rfl⟩ := rgS_of e3
    cases t with
    | true => exact ⟨R, ad, env, S, _, S1, A, e1, fun u H1 k1 s1 r1 => ⟨R, ad, env, S1, _, S2, A.keep k1 s1, e2, fun u2 H2 k2 s2 r2 => ⟨i, j, r1.int, r2.int, ok, fun r hr => fin_tup ((A.keep k1 s1).keep k2 s2).fr s2 (reps_rg i j) (fun u3 H3 k3 s3 r3 => q u3 H3 ((k1.trans k2).trans k3) s3 r3) r hr⟩⟩⟩
    | false => exact ⟨R, ad, env, S, _, S1, A, e1, fun u H1 k1 s1 r1 => ⟨R, ad, env, S1, _, S2, A.keep k1 s1, e2, fun u2 H2 k2 s2 r2 => ⟨i, j, r1.int, r2.int, ok, fun r hr => fin_lst ((A.keep k1 s1).keep k2 s2).fr s2 (reps_rg i j) (fun u3 H3 k3 s3 r3 => q u3 H3 ((k1.trans k2).trans k3) s3 r3) r hr⟩⟩⟩
  subst hf
  cases t with
  | true => exact (pe_tupRg hc hg hm rg).imp fun σ H Q h => fin h
  | false => exact (pe_listRg hc hg hm rg).imp fun σ H Q h => fin h
theorem pe_gcdV {p1 : Pos} (hg : Gl X "gcd") (hm : X.mg "gcd" = some (.builtin "math.gcd")) (ha : PE X x (tV T X.K n a)) (hb : PE X y (tV T X.K n b)) (hs : notStar x = true) (hs2 : notStar y = true) :
    PE X (.Call (.Name "gcd" p1) [x, y] [] pos) (tV T X.K (n + 1) (.gcd a b)) := by
  refine (pe_callBfun cr_gcd hg hm (pa_cons ha (pa_cons hb pa_nil (star1 hs2)) (star1 hs)) (by decide) (star1 hs) (by rw [star1 hs2]; rfl)).imp fun σ H Q hq => ?_
  obtain ⟨R, ad, env, S, w, S', A, e1, q⟩ := hq
  simp only [evE, Option.bind_eq_some_iff] at e1
  obtain ⟨⟨v1, S1⟩, e1, ⟨v2, S2⟩, e2, e3⟩ := e1
  unfold gcdV at e3
  split at e3
  case h_2 => cases e3
  rename_i i j h1 h2
  have h1 : v1 = .int i := h1
  have h2 : v2 = .int j := h2
  subst h1 h2
  simp only [Option.some.injEq, Prod.mk.injEq] at e3
  obtain ⟨rfl, rfl⟩ := e3
  exact ⟨R, ad, env, S, _, S1, A, e1, fun u H1 k1 s1 r1 => ⟨R, ad, env, S1, _, S2, A.keep k1 s1, e2, fun u2 H2 k2 s2 r2 => ⟨i, j, by rw [r1.int, r2.int], q _ H2 (k1.trans k2) s2 (Rep.toE (.int _))⟩⟩⟩
theorem RepE.lstR {K : PySem.W.Frag} {R : Addr → Prop} {a : Addr} {H : Hp} {v : V} {x : PV} {l : List PV} {ok : Bool} (r : RepE K R a H v x) (e : x.lst? = some l) (h : ok = true ∨ x.isOwn = false) : ∃ p vs, v = .ref p ∧ H p = some (.lst vs) ∧ p ≠ a ∧ (ok = true ∨ R p) ∧ Reps K R a H vs l := by
  cases x with
  | lst m =>
    simp only [PV.lst?, Option.some.injEq] at e
    subst e
    cases (show Rep _ _ _ _ _ _ from r) with
    | lst h n q t => exact ⟨_, _, rfl, h, n, .inr q, t⟩
  | own m =>
    simp only [PV.lst?, Option.some.injEq] at e
    subst e
    obtain ⟨l, vs, e1, h1, n, q⟩ := r
    refine ⟨l, vs, e1, h1, n, ?_, q⟩
    rcases h with h | h
    · exact .inl h
    · simp [PV.isOwn] at h
  | _ => simp [PV.lst?] at e
abbrev iZipA1 (K : PySem.W.Frag) (u u2 : V) (H1 : Hp) (R : It → Hp → Prop) : Prop := ∃ a b xs ys, u = .ref a ∧ u2 = .ref b ∧ ((SqL K H1 a xs ∧ SqL K H1 b ys ∧ R (Itz K a b) H1) ∨ (SqT K H1 a xs ∧ SqT K H1 b ys ∧ R (RZ.ItzT K a b) H1))
theorem pi_zipV {ok : Bool} {es : List Expr} {k : Nat} {tp : Pos} (hg : Gl X "zip") (hm : X.mg "zip" = none) (ha : PE X x (tV T X.K n a)) (hb : PE X y (tV T X.K n b)) (hs : notStar x = true) (hs2 : notStar y = true) : PI X (.Tuple es k tp) (.Call (.Name "zip" p) [x, y] [] pos) (tI T X.K ok n (.zip a b)) := by
  refine (RZ.pi_zipA hg hm (pa_cons ha (pa_cons hb pa_nil (star1 hs2)) (star1 hs)) (star1 hs) (by rw [star1 hs2]; rfl)).imp fun σ H Q hq => ?_
  obtain ⟨R, ad, env, S, xs, S', A, e1, q⟩ := hq
  simp only [itV, Option.bind_eq_some_iff] at e1
  obtain ⟨⟨v1, S1⟩, e1, ⟨v2, S2⟩, e2, e3⟩ := e1
  refine ⟨R, ad, env, S, v1, S1, A, e1, fun u H1 k1 s1 r1 => ⟨R, ad, env, S1, v2, S2, A.keep k1 s1, e2, fun u2 H2 k2 s2 r2 => ?_⟩⟩
  have r1 := r1.keep k2
  have gen : ∀ {ok' : Bool}, (ok = true ∨ (v1.isOwn = false ∧ v2.isOwn = false)) → (match v1.lst?, v2.lst? with | some x, some y => some (zipV x y, S2) | _, _ => none) = some (xs, S') → iZipA1 X.K u u2 H2 Q := by
    intro _ hok e
    split at e
    case h_2 => cases e
    rename_i l m hl hm
    simp only [Option.some.injEq, Prod.mk.injEq] at e
    obtain ⟨rfl, rfl⟩ := e
    obtain ⟨p1, vs, rfl, g1, g2, g3, g4⟩ := r1.lstR (ok := ok) hl (hok.elim .inl fun z => .inr z.1)
    obtain ⟨p2, ws, rfl, g1', g2', g3', g4'⟩ := r2.lstR (ok := ok) hm (hok.elim .inl fun z => .inr z.2)
    exact ⟨p1, p2, vs, ws, rfl, rfl, .inl ⟨SqL.of g1, SqL.of g1', q _ H2 (k1.trans k2) s2 (.zipL g1 g2 g3 g1' g2' g3' g4 g4')⟩⟩
  have fin : iZipA1 X.K u u2 H2 Q := by
    split at e3
    · rename_i l m hl hm
      have hl : v1 = .tup l := hl
      have hm : v2 = .tup m := hm
      subst hl
      subst hm
      simp only [Option.some.injEq, Prod.mk.injEq] at e3
      obtain ⟨rfl, rfl⟩ := e3
      obtain ⟨p1, vs, rfl, g1, g2, g4⟩ := r1.tup
      obtain ⟨p2, ws, rfl, g1', g2', g4'⟩ := r2.tup
      exact ⟨p1, p2, vs, ws, rfl, rfl, .inr ⟨SqT.of g1, SqT.of g1', q _ H2 (k1.trans k2) s2 (.zipT g1 g2 g1' g2' g4 g4')⟩⟩
    · split at e3
      case isFalse => cases e3
      rename_i hok
      exact gen (ok' := ok) (by simpa using hok) e3
  obtain ⟨p1, p2, vs, ws, rfl, rfl, f⟩ := fin
  exact ⟨p1, p2, vs, ws, rfl, f⟩
end

/-! ### the new list of a comprehension -/
section
variable {K : PySem.W.Frag} {R : Addr → Prop} {a D : Addr} {H H' : Hp}
abbrev but (R : Addr → Prop) (D : Addr) : Addr → Prop := fun b => R b ∧ b ≠ D
mutual
/-- what stood before D was new does not reach it -/
theorem Rep.toD (hD : H D = none) (k : Keep a H H') : ∀ {v : V} {x : PV}, Rep K R a H v x → Rep K (but R D) a H' v x
  | _, _, .non => .non
  | _, _, .bl b => .bl b
  | _, _, .int i => .int i
  | _, _, .str s => .str s
  | _, _, .ty n => .ty n
  | _, _, .stm => .stm
  | _, _, .tup h n r => .tup (k.1 _ _ h n) n (Reps.toD hD k r)
  | _, _, .lst h n q r => .lst (k.1 _ _ h n) n ⟨q, ne_of_none h hD⟩ (Reps.toD hD k r)
theorem Reps.toD (hD : H D = none) (k : Keep a H H') : ∀ {vs : List V} {xs : List PV}, Reps K R a H vs xs → Reps K (but R D) a H' vs xs
  | _, _, .nil => .nil
  | _, _, .cons r rs => .cons (Rep.toD hD k r) (Reps.toD hD k rs)
end
mutual
/-- what does not reach D stays when its list changes -/
theorem Rep.updD {l l' : List V} (hD : H D = some (.lst l)) : ∀ {v : V} {x : PV}, Rep K (but R D) a H v x → Rep K (but R D) a (L2.upd H D (.lst l')) v x
  | _, _, .non => .non
  | _, _, .bl b => .bl b
  | _, _, .int i => .int i
  | _, _, .str s => .str s
  | _, _, .ty n => .ty n
  | _, _, .stm => .stm
  | _, _, .tup h n r => .tup (by rw [upd_ne (ne_of h hD (fun z => by cases z))]; exact h) n (Reps.updD hD r)
  | _, _, .lst h n q r => .lst (by rw [upd_ne q.2]; exact h) n q (Reps.updD hD r)
theorem Reps.updD {l l' : List V} (hD : H D = some (.lst l)) : ∀ {vs : List V} {xs : List PV}, Reps K (but R D) a H vs xs → Reps K (but R D) a (L2.upd H D (.lst l')) vs xs
  | _, _, .nil => .nil
  | _, _, .cons r rs => .cons (Rep.updD hD r) (Reps.updD hD rs)
end
theorem RepE.toD (hD : H D = none) (k : Keep a H H') {v : V} {x : PV} (r : RepE K R a H v x) : RepE K (but R D) a H' v x := by
  cases x with
  | own xs => obtain ⟨l, vs, e, h, n, q⟩ := r; exact ⟨l, vs, e, k.1 _ _ h n, n, q.toD hD k⟩
  | _ => exact Rep.toD hD k r
theorem EnvE.toD (hD : H D = none) (k : Keep a H H') {σ : L2.St} {env : Env} (e : EnvE K R a H σ env) : EnvE K (but R D) a H' σ env := ⟨e.len, fun i x h =>
  let ⟨v, h1, h2⟩ := e.get i x h
  ⟨v, h1, h2.toD hD k⟩⟩
theorem Fresh.but (f : Fresh R a H) (k : Keep a H H') (hD : H' D ≠ none) : Fresh (but R D) a H' := ⟨fun b h => ⟨f.fc b (k.fresh h), fun e => hD (e ▸ h)⟩, fun h => f.na h.1⟩
/-- the list at D grows -/
theorem Keep.updD {l' : List V} {H0 : Hp} (hD0 : H0 D = none) (hDa : D ≠ a) (k : Keep a H0 H) : Keep a H0 (L2.upd H D (.lst l')) := by
  refine ⟨fun b o e n => ?_, fun b e => ?_, fun q r e => ?_⟩
  · rw [upd_ne (ne_of_none e hD0)]; exact k.1 b o e n
  · by_cases h : b = D
    · subst h; rw [upd_same]; exact fun z => by cases z
    · rw [upd_ne h]; exact k.2.1 b e
  · rw [upd_ne (Ne.symm hDa)]; exact k.2.2 q r e
theorem SRel.updD {l' : List V} {S : Strm} (hDa : D ≠ a) (s : SRel K (but R D) a H S) : SRel K (but R D) a (L2.upd H D (.lst l')) S := by
  cases S with
  | none => trivial
  | some t =>
    obtain ⟨scr, c, k⟩ := t
    obtain ⟨q, h1, h2, h3, h4⟩ := s
    exact ⟨q, by rw [upd_ne (Ne.symm hDa)]; exact h1, by rw [upd_ne h4.2]; exact h2, h3, h4⟩
theorem SRel.toD {S : Strm} (hD : H D = none) (s : SRel K R a H S) : SRel K (but R D) a H S := by
  cases S with
  | none => trivial
  | some t =>
    obtain ⟨scr, c, k⟩ := t
    obtain ⟨q, h1, h2, h3, h4⟩ := s
    exact ⟨q, h1, h2, h3, h4, ne_of_none h2 hD⟩
end

/-! ### comprehensions -/
section
variable {T : Tbl} {X : Cx} {n : Nat}
theorem compL_step {step : PV → Strm → Option (Option PV × Strm)} {l : List PV} {S S2 : Strm} {ys : List PV} {x : PV} {i : Nat} (h : compL step (l.drop i) S = some (ys, S2)) (hx : l[i]? = some x) :
    ∃ r S1 ys', step x S = some (r, S1) ∧ compL step (l.drop (i + 1)) S1 = some (ys', S2) ∧ ys = (match r with | some y => y :: ys' | none => ys') := by
  obtain ⟨hi, e⟩ := List.getElem?_eq_some_iff.mp hx
  have ed : l.drop i = x :: l.drop (i + 1) := by rw [List.drop_eq_getElem_cons hi, e]
  rw [ed] at h
  simp only [compL, Option.bind_eq_some_iff, Option.map_eq_some_iff] at h
  obtain ⟨⟨r, S1⟩, h1, ⟨ys', S3⟩, h2, h3⟩ := h
  simp only [Prod.mk.injEq] at h3
  obtain ⟨h3, rfl⟩ := h3
  exact ⟨r, S1, ys', h1, h2, h3.symm⟩
/-- the tests of a comprehension -/
def tIf (T : Tbl) (K : PySem.W.Frag) (n : Nat) : Option CE → TT
  | none => tYes
  | some d => tB T K n d
/-- a new list: its place is new -/
def tF (T : Tbl) (K : PySem.W.Frag) (n : Nat) (c : CE) : TE := fun σ H Q => ∃ R a env S xs S', At K σ H R a env S ∧ evE T n c env S = some (.lst xs, S') ∧
  ∀ p vs H', Keep a H H' → SRel K R a H' S' → H p = none → H' p = some (.lst vs) → Reps K (but R p) a H' vs xs → Q (.ref p) H'
theorem tV_tF {elt' : CE} {tg' : Tg} {it' : CI} {ifs' : Option CE} {own : List (Str × Nat)} {σ : L2.St} {H : Hp} {Q : VK} (hq : tV T X.K (n + 1) (.comp elt' tg' it' ifs' own) σ H Q) : tF T X.K (n + 1) (.comp elt' tg' it' ifs' own) σ H Q := by
  obtain ⟨R, ad, env, S, w, S', A, e1, q⟩ := hq
  have e0 := e1
  simp only [evE, Option.bind_eq_some_iff] at e1
  obtain ⟨⟨its, S1⟩, e1, e2⟩ := e1
  split at e2
  case isFalse => cases e2
  simp only [Option.map_eq_some_iff] at e2
  obtain ⟨⟨ys, S2⟩, e2, e3⟩ := e2
  simp only [Prod.mk.injEq] at e3
  obtain ⟨rfl, rfl⟩ := e3
  exact ⟨R, ad, env, S, ys, S2, A, e0, fun p vs H' k s hp hp' r => q _ H' k s (Rep.toE (.lst hp' (A.fr.ne hp) (A.fr.fc p hp) (r.mono (fun b h => h.1) Keep.refl)))⟩
theorem comp_ok {elt' : CE} {tg' : Tg} {it' : CI} {ifs' : Option CE} {own : List (Str × Nat)} {σ : L2.St} {H : Hp} {Q : VK} (hin : tgIn tg' (own.map (·.2)) = true) (hq : tF T X.K (n + 1) (.comp elt' tg' it' ifs' own) σ H Q) :
      tLc (tI T X.K true n it') (gTg X.K tg') (tIf T X.K n ifs') (tV T X.K n elt') (own.map (·.2)) σ H Q := by
    obtain ⟨R, ad, env, S, w, S', A, e1, q⟩ := hq
    simp only [evE, Option.bind_eq_some_iff] at e1
    obtain ⟨⟨its, S1⟩, e1, e2⟩ := e1
    split at e2
    case isFalse => cases e2
    rename_i hlen
    simp only [Option.map_eq_some_iff] at e2
    obtain ⟨⟨ys, S2⟩, e2, e3⟩ := e2
    simp only [Prod.mk.injEq, PV.lst.injEq] at e3
    obtain ⟨rfl, rfl⟩ := e3
    refine ⟨R, ad, env, S, its, S1, A, e1, fun J H1 k1 s1 io D hD => ?_⟩
    obtain ⟨G, Y, wk, hG, hY⟩ := io.walk
    have f1 := A.fr.keep k1
    have hDa : D ≠ ad := f1.ne hD
    refine lc_it wk (fun i H' => ∃ Si acc accP rest, Keep ad H1 H' ∧ SRel X.K (but R D) ad H' Si ∧ H' D = some (.lst acc) ∧ Reps X.K (but R D) ad H' acc accP ∧ acc.length ≤ i ∧
      compL (stepV (fun e env S => evE T n e env S) elt' tg' ifs' (wipeE env (own.map (·.2)))) (its.drop i) Si = some (rest, S2) ∧ accP ++ rest = ys) ?_ ?_ ?_ ?_
    · exact ⟨S1, [], [], ys, Keep.upd hD, SRel.updD hDa (s1.toD hD), upd_same, .nil, Nat.le_refl _, e2, rfl⟩
    · rintro i H' hi ⟨Si, acc, accP, rest, k2, _⟩
      exact hG H' fun b o e nb _ => k2.1 b o e nb
    · rintro i x H2 H3 hi ⟨Si, acc, accP, rest, k2, s2, d2, r2, l2, c2, p2⟩ y3
      have nD2 : H2 D ≠ none := by rw [d2]; exact fun z => by cases z
      have f2 : Fresh (but R D) ad H2 := f1.but k2 nD2
      obtain ⟨nw, y, hy, ry⟩ := hY (but R D) H2 f2 (fun vs xs r => r.toD hD k2) i x H3 hi y3
      obtain ⟨r, S3, rest', st, c3, ej⟩ := compL_step c2 hy
      simp only [stepV, Option.bind_eq_some_iff] at st
      obtain ⟨env1, hb, ⟨b, S4⟩, ht, hlast⟩ := st
      have k3 : Keep ad H2 H3 := nw.keep
      have k13 : Keep ad H1 H3 := k2.trans k3
      have en : EnvE X.K (but R D) ad H3 (wipe σ (own.map (·.2))) (wipeE env (own.map (·.2))) := ((A.en.keep k1).toD hD k13).wipe _
      refine bind_ok en ry.toE hb fun σ' en' hw => ⟨?_, ?_⟩
      · rw [hw _ fun i hi => by have := List.all_eq_true.mp hin i hi; simpa using this, wipe_wipe]
      have f3 : Fresh (but R D) ad H3 := f2.keep k3
      have s3 : SRel X.K (but R D) ad H3 Si := nw.srel s2
      -- the way on
      have cont : ∀ (b : Bool) (S4 : Strm) (H4 : Hp), Keep ad H3 H4 → SRel X.K (but R D) ad H4 S4 →
          ((if b = true then (evE T n elt' env1 S4).bind fun r => if r.1.isOwn then none else some (some r.1, r.2) else some (none, S4)) = some (r, S3)) →
          (if b = true then tV T X.K n elt' σ' H4 (fun y H5 => ∃ acc', H5 D = some (.lst acc') ∧ acc'.length < sizeLine ∧ ∃ Si acc accP rest, Keep ad H1 (L2.upd H5 D (.lst (acc' ++ [y]))) ∧ SRel X.K (but R D) ad (L2.upd H5 D (.lst (acc' ++ [y]))) Si ∧ (L2.upd H5 D (.lst (acc' ++ [y]))) D = some (.lst acc) ∧ Reps X.K (but R D) ad (L2.upd H5 D (.lst (acc' ++ [y]))) acc accP ∧ acc.length ≤ i + 1 ∧
            compL (stepV (fun e env S => evE T n e env S) elt' tg' ifs' (wipeE env (own.map (·.2)))) (its.drop (i + 1)) Si = some (rest, S2) ∧ accP ++ rest = ys)
          else ∃ Si acc accP rest, Keep ad H1 H4 ∧ SRel X.K (but R D) ad H4 Si ∧ H4 D = some (.lst acc) ∧ Reps X.K (but R D) ad H4 acc accP ∧ acc.length ≤ i + 1 ∧
            compL (stepV (fun e env S => evE T n e env S) elt' tg' ifs' (wipeE env (own.map (·.2)))) (its.drop (i + 1)) Si = some (rest, S2) ∧ accP ++ rest = ys) := by
        intro b S4 H4 k4 s4 hl
        have d4 : H4 D = some (.lst acc) := k4.1 _ _ (k3.1 _ _ d2 hDa) hDa
        have r4 : Reps X.K (but R D) ad H4 acc accP := (r2.keep k3).keep k4
        cases b with
        | true =>
          refine iteT ?_
          rw [if_pos rfl] at hl
          simp only [Option.bind_eq_some_iff] at hl
          obtain ⟨⟨z, S5⟩, h1, h2⟩ := hl
          split at h2
          · cases h2
          rename_i ho
          simp only [Option.some.injEq, Prod.mk.injEq] at h2
          obtain ⟨rfl, rfl⟩ := h2
          refine ⟨_, ad, env1, S4, z, S5, ⟨f3.keep k4, en'.keep k4, s4⟩, h1, fun u H5 k5 s5 r5 => ?_⟩
          have d5 : H5 D = some (.lst acc) := k5.1 _ _ d4 hDa
          have rz : Rep X.K (but R D) ad H5 u z := r5.rep (by simpa using ho)
          refine ⟨acc, d5, ?_, S5, acc ++ [u], accP ++ [z], rest', ?_, SRel.updD hDa s5, upd_same, ?_, ?_, c3, ?_⟩
          · have : sizeLine = 16777216 := sizeLine_eq
            have : its.length ≤ 1000000 := hlen
            omega
          · exact Keep.updD hD hDa (k13.trans (k4.trans k5))
          · exact (Reps.updD d5 (r4.keep k5)).append (.cons (Rep.updD d5 rz) .nil)
          · rw [List.length_append, List.length_singleton]; omega
          · rw [← p2, ej, List.append_assoc]; rfl
        | false =>
          refine iteF ?_
          rw [if_neg (by decide)] at hl
          simp only [Option.some.injEq, Prod.mk.injEq] at hl
          obtain ⟨rfl, rfl⟩ := hl
          exact ⟨_, acc, accP, rest', k13.trans k4, s4, d4, r4, by omega, c3, by rw [← p2, ej]⟩
      cases ifs' with
      | none =>
        simp only [Option.some.injEq, Prod.mk.injEq] at ht
        obtain ⟨rfl, rfl⟩ := ht
        exact cont true Si H3 Keep.refl s3 hlast
      | some d =>
        simp only [Option.bind_eq_some_iff, Option.map_eq_some_iff] at ht
        obtain ⟨⟨v, S5⟩, h1, k, h2, h3⟩ := ht
        simp only [Prod.mk.injEq] at h3
        obtain ⟨rfl, rfl⟩ := h3
        exact ⟨_, ad, env1, Si, v, S5, k, ⟨f3, en', s3⟩, h1, h2, fun H4 k4 s4 => cont k S5 H4 k4 s4 hlast⟩
    · rintro H' ⟨Si, acc, accP, rest, k2, s2, d2, r2, l2, c2, p2⟩
      rw [List.drop_length] at c2
      simp only [compL, Option.some.injEq, Prod.mk.injEq] at c2
      obtain ⟨rfl, rfl⟩ := c2
      rw [List.append_nil] at p2
      subst p2
      exact q D acc H' (k1.trans k2) (s2.mono fun b h => h.1) (k1.fresh hD) d2 r2
theorem pe_compV {elt tg it : Expr} {ifs : List Expr} {scope : Scope} {pos : Pos} {elt' : CE} {tg' : Tg} {it' : CI} {ifs' : Option CE} {own : List (Str × Nat)}
    (hc : X.calm = true) (hN : X.N.Nodup) (hi : PI X tg it (tI T X.K true n it')) (ok : BlkOk X.N X.env.scope scope own) (hin : tgIn tg' (own.map (·.2)) = true)
    (hg : ∀ (s : Shared) (H : Hp) (C : Addr) (cl : List (Str × Addr)) (fp : List Addr), PG (X.blk s H scope (compEnvC scope cl C X.env) fp) tg (gTg X.K tg'))
    (ht : ∀ (s : Shared) (H : Hp) (C : Addr) (cl : List (Str × Addr)) (fp : List Addr), PTs (X.blk s H scope (compEnvC scope cl C X.env) fp) ifs (tIf T X.K n ifs'))
    (he : ∀ (s : Shared) (H : Hp) (C : Addr) (cl : List (Str × Addr)) (fp : List Addr), PE (X.blk s H scope (compEnvC scope cl C X.env) fp) elt (tV T X.K n elt')) (hs : ∀ x, foldedSetIterable it X.env x = pure x) :
    PE X (.ListComp elt [⟨tg, it, ifs, 0⟩] scope pos) (tV T X.K (n + 1) (.comp elt' tg' it' ifs' own)) := by
  refine (pe_lc hc hN hi ok hg ht he hs).imp fun σ H Q hq => ?_
  exact comp_ok hin (tV_tF hq)
end
end Ws

/-! Ws9b: combinations and enumerate walked; comprehensions of two clauses. -/
namespace Ws
open PySem PySem.Spec PyProof.Rows L2

section
variable {T : Tbl} {X : Cx} {n : Nat} {x y z : Expr} {a b m : CE} {pos p p2 pos2 : Pos}
theorem rgOk_of {i j : Int} (h : (inR i && inR j && decide ((j - i).toNat ≤ LIM)) = true) : RgOk i j := by
  simp only [Bool.and_eq_true, decide_eq_true_eq] at h
  obtain ⟨⟨h1, h2⟩, h3⟩ := h
  unfold LIM at h3
  exact ⟨(inR_of h1).1, (inR_of h1).2, (inR_of h2).1, (inR_of h2).2, by omega⟩
theorem combV_k {xs l : List PV} {k : Int} (h : combV xs k = some l) : 0 ≤ k ∧ k ≤ 1000 := by
  unfold combV at h
  split at h
  · rename_i hk; simpa using hk
  · cases h
theorem pi_cb1V {ok : Bool} {tg : Expr} (hc : X.calm = true) (hg : Gl X "combinations") (hm : X.mg "combinations" = some (.type "itertools.combinations")) (hg2 : Gl X "range") (hm2 : X.mg "range" = none) (hb : PE X y (tV T X.K n b)) (hk : PE X z (tV T X.K n m)) (hs2 : notStar y = true) (hs3 : notStar z = true) :
    PI X tg (.Call (.Name "combinations" p) [.Call (.Name "range" p2) [y] [] pos2, z] [] pos) (tI T X.K ok n (.cb1 b m)) := by
  refine (Cb.pi_cb1 hc hg hm hg2 hm2 hb hk (by decide) (star1 rfl) (star1 hs3) (star1 hs2)).imp fun σ H Q hq => ?_
  obtain ⟨R, ad, env, S, xs, S', A, e1, q⟩ := hq
  simp only [itV, Option.bind_eq_some_iff] at e1
  obtain ⟨⟨v1, S1⟩, e1, e2⟩ := e1
  split at e2
  case h_2 => cases e2
  rename_i j hj
  have hj : v1 = .int j := hj
  subst hj
  simp only [Option.bind_eq_some_iff] at e2
  obtain ⟨⟨v2, S2⟩, e2, e3⟩ := e2
  unfold cbR at e3
  split at e3
  case h_2 => cases e3
  rename_i k hk
  have hk : v2 = .int k := hk
  subst hk
  split at e3
  case isFalse => cases e3
  rename_i hr
  simp only [Option.map_eq_some_iff, Prod.mk.injEq] at e3
  obtain ⟨l, e3, rfl, rfl⟩ := e3
  exact ⟨R, ad, env, S, _, S1, A, e1, fun u H1 k1 s1 r1 => ⟨j, r1.int, R, ad, env, S1, _, S2, A.keep k1 s1, e2, fun u2 H2 k2 s2 r2 =>
    ⟨k, r2.int, rgOk_of hr, (combV_k e3).1, (combV_k e3).2, q _ H2 (k1.trans k2) s2 (.comb (reps_rg 0 j) e3)⟩⟩⟩
theorem pi_cb2V {ok : Bool} {tg : Expr} (hc : X.calm = true) (hg : Gl X "combinations") (hm : X.mg "combinations" = some (.type "itertools.combinations")) (hg2 : Gl X "range") (hm2 : X.mg "range" = none) (ha : PE X x (tV T X.K n a)) (hb : PE X y (tV T X.K n b)) (hk : PE X z (tV T X.K n m)) (hs1 : notStar x = true) (hs2 : notStar y = true) (hs3 : notStar z = true) :
    PI X tg (.Call (.Name "combinations" p) [.Call (.Name "range" p2) [x, y] [] pos2, z] [] pos) (tI T X.K ok n (.cb2 a b m)) := by
  refine (Cb.pi_cb2 hc hg hm hg2 hm2 ha hb hk (by decide) (star1 rfl) (star1 hs3) (star1 hs1) (star1 hs2)).imp fun σ H Q hq => ?_
  obtain ⟨R, ad, env, S, xs, S', A, e1, q⟩ := hq
  simp only [itV, Option.bind_eq_some_iff] at e1
  obtain ⟨⟨v0, S0⟩, e0, ⟨v1, S1⟩, e1, e2⟩ := e1
  split at e2
  case h_2 => cases e2
  rename_i i j hi hj
  have hi : v0 = .int i := hi
  have hj : v1 = .int j := hj
  subst hi
  subst hj
  simp only [Option.bind_eq_some_iff] at e2
  obtain ⟨⟨v2, S2⟩, e2, e3⟩ := e2
  unfold cbR at e3
  split at e3
  case h_2 => cases e3
  rename_i k hk
  have hk : v2 = .int k := hk
  subst hk
  split at e3
  case isFalse => cases e3
  rename_i hr
  simp only [Option.map_eq_some_iff, Prod.mk.injEq] at e3
  obtain ⟨l, e3, rfl, rfl⟩ := e3
  exact ⟨R, ad, env, S, _, S0, A, e0, fun u0 H0 k0 s0 r0 => ⟨R, ad, env, S0, _, S1, A.keep k0 s0, e1, fun u H1 k1 s1 r1 => ⟨i, j, r0.int, r1.int, R, ad, env, S1, _, S2, (A.keep k0 s0).keep k1 s1, e2, fun u2 H2 k2 s2 r2 =>
    ⟨k, r2.int, rgOk_of hr, (combV_k e3).1, (combV_k e3).2, q _ H2 ((k0.trans k1).trans k2) s2 (.comb (reps_rg i j) e3)⟩⟩⟩⟩
theorem pi_cblV {ok : Bool} {tg : Expr} (hc : X.calm = true) (hg : Gl X "combinations") (hm : X.mg "combinations" = some (.type "itertools.combinations")) (ha : PE X x (tV T X.K n a)) (hk : PE X z (tV T X.K n m)) (hs1 : notStar x = true) (hs3 : notStar z = true) :
    PI X tg (.Call (.Name "combinations" p) [x, z] [] pos) (tI T X.K ok n (.cbl a m)) := by
  refine (Cb.pi_cbL hc hg hm ha hk (by decide) (star1 hs1) (star1 hs3)).imp fun σ H Q hq => ?_
  obtain ⟨R, ad, env, S, xs, S', A, e1, q⟩ := hq
  simp only [itV, Option.bind_eq_some_iff] at e1
  obtain ⟨⟨v0, S0⟩, e0, e2⟩ := e1
  split at e2
  · cases e2
  rename_i ho
  simp only [Option.bind_eq_some_iff] at e2
  obtain ⟨⟨v1, S1⟩, e1, e2⟩ := e2
  split at e2
  case h_2 => cases e2
  rename_i l0 k hl hk
  have hk : v1 = .int k := hk
  subst hk
  simp only [Option.map_eq_some_iff, Prod.mk.injEq] at e2
  obtain ⟨l, e3, rfl, rfl⟩ := e2
  refine ⟨R, ad, env, S, _, S0, A, e0, fun u0 H0 k0 s0 r0 => ⟨R, ad, env, S0, _, S1, A.keep k0 s0, e1, fun u H1 k1 s1 r1 => ?_⟩⟩
  obtain ⟨pp, vs, rfl, hp, rs⟩ := (r0.keep k1).seq hl
  exact ⟨pp, vs, k, rfl, r1.int, hp.imp (fun z => SqL.of z) (fun z => SqT.of z), (combV_k e3).1, (combV_k e3).2, q _ H1 (k0.trans k1) s1 (.comb rs e3)⟩
theorem pi_enumV {ok : Bool} {es : List Expr} {k : Nat} {tp : Pos} (hg : Gl X "enumerate") (hm : X.mg "enumerate" = none) (ha : PE X x (tV T X.K n a)) (hs : notStar x = true) : PI X (.Tuple es k tp) (.Call (.Name "enumerate" p) [x] [] pos) (tI T X.K ok n (.enum a)) := by
  refine (pi_enum hg hm (pa_cons ha pa_nil (star1 hs)) (star1 hs)).imp fun σ H Q hq => ?_
  obtain ⟨R, ad, env, S, xs, S', A, e1, q⟩ := hq
  simp only [itV, Option.bind_eq_some_iff] at e1
  obtain ⟨⟨v1, S1⟩, e1, e2⟩ := e1
  split at e2
  case isFalse => cases e2
  rename_i hok
  simp only [Option.map_eq_some_iff, Prod.mk.injEq] at e2
  obtain ⟨l, h1, rfl, rfl⟩ := e2
  refine ⟨R, ad, env, S, v1, S1, A, e1, fun u H1 k1 s1 r1 => ?_⟩
  obtain ⟨q0, vs, rfl, hp, np, hR, rs⟩ := r1.lstR (ok := ok) h1 (by
    rw [Bool.or_eq_true] at hok
    exact hok.imp id fun z => by simpa using z)
  exact ⟨q0, vs, rfl, SqL.of hp, q _ H1 k1 s1 (.enum hp np hR rs)⟩
end

section
variable {K : PySem.W.Frag} {R : Addr → Prop} {D a : Addr} {H H' : Hp} {l : List V}
mutual
/-- all but D is kept -/
theorem rep_but (k : ∀ b o, H b = some o → b ≠ a → b ≠ D → H' b = some o) (hD : H D = some (.lst l)) : ∀ {v : V} {x : PV}, Rep K (but R D) a H v x → Rep K (but R D) a H' v x
  | _, _, .non => .non
  | _, _, .bl b => .bl b
  | _, _, .int i => .int i
  | _, _, .str s => .str s
  | _, _, .ty n => .ty n
  | _, _, .stm => .stm
  | _, _, .tup h n r => .tup (k _ _ h n fun z => by rw [z, hD] at h; cases h) n (reps_but k hD r)
  | _, _, .lst h n q r => .lst (k _ _ h n q.2) n q (reps_but k hD r)
theorem reps_but (k : ∀ b o, H b = some o → b ≠ a → b ≠ D → H' b = some o) (hD : H D = some (.lst l)) : ∀ {vs : List V} {xs : List PV}, Reps K (but R D) a H vs xs → Reps K (but R D) a H' vs xs
  | _, _, .nil => .nil
  | _, _, .cons r rs => .cons (rep_but k hD r) (reps_but k hD rs)
end
end
/-- the owned lists of names do not lie at D -/
def OwnNe (D : Addr) (σ : L2.St) (env : Env) : Prop := ∀ (i : Nat) (xs : List PV) (l : Addr), env[i]? = some (some (.own xs)) → σ[i]? = some (some (.ref l)) → l ≠ D
theorem OwnNe.set {D : Addr} {σ : L2.St} {env : Env} (o : OwnNe D σ env) {v : V} {x : PV} (hx : x.isOwn = false) (i : Nat) : OwnNe D (σ.set i (some v)) (env.set i (some x)) := by
  intro j xs l h1 h2
  by_cases hj : i = j
  · subst hj
    by_cases hi : i < env.length
    · rw [List.getElem?_set_self hi] at h1
      cases h1
      simp [PV.isOwn] at hx
    · rw [List.getElem?_eq_none (by rw [List.length_set]; omega)] at h1
      cases h1
  · rw [List.getElem?_set_ne hj] at h1 h2
    exact o j xs l h1 h2
theorem OwnNe.wipe {D : Addr} {σ : L2.St} {env : Env} (o : OwnNe D σ env) (hl : σ.length = env.length) (vs : List Nat) : OwnNe D (L2.wipe σ vs) (wipeE env vs) := by
  intro j xs l h1 h2
  rw [wipeE_get] at h1
  rw [wipe_get] at h2
  split at h1
  · cases h1
  · rename_i hn
    rw [if_neg (by rw [hl]; exact hn)] at h2
    exact o j xs l h1 h2
section
variable {K : PySem.W.Frag} {R : Addr → Prop} {a D : Addr} {H : Hp} {σ : L2.St} {env env' : Env}
theorem OwnNe.of (e : EnvE K R a H σ env) (hD : H D = none) : OwnNe D σ env := by
  intro i xs l h1 h2 z
  obtain ⟨v, h3, l', vs, h4, h5, _⟩ := e.get i _ h1
  rw [h2] at h3
  cases h3
  cases h4
  rw [z, hD] at h5
  cases h5
theorem nms_okN {Q : L2.St → Hp → Prop} : ∀ (l : List Nat) {vs : List V} {xs : List PV} {σ : L2.St} {env : Env}, EnvE K R a H σ env → OwnNe D σ env → Reps K R a H vs xs → xs.length = l.length →
    (∀ σ', EnvE K R a H σ' ((l.zip xs).foldl (fun e p => e.set p.1 (some p.2)) env) → OwnNe D σ' ((l.zip xs).foldl (fun e p => e.set p.1 (some p.2)) env) → (∀ us, (∀ i ∈ l, i ∈ us) → L2.wipe σ' us = L2.wipe σ us) → Q σ' H) → gNms l vs σ H Q
  | [], vs, xs, σ, env, e, o, r, hl, q => by
    cases r with
    | nil => exact ⟨rfl, q σ e o fun _ _ => rfl⟩
    | cons _ _ => simp at hl
  | i :: l, vs, xs, σ, env, e, o, r, hl, q => by
    cases r with
    | nil => simp at hl
    | cons r rs =>
      refine ⟨_, _, rfl, ?_⟩
      show gNms l _ (σ.set i (some _)) H Q
      refine nms_okN l (e.set r.toE i) (o.set r.noOwn i) rs (by simpa using hl) fun σ' e' o' hw => q σ' e' o' fun us hu => ?_
      rw [hw us fun j hj => hu j (List.mem_cons_of_mem _ hj), wipe_set (hu i List.mem_cons_self)]
theorem bind_okN {t : Tg} {v : V} {x : PV} {Q : L2.St → Hp → Prop} (e : EnvE K R a H σ env) (o : OwnNe D σ env) (r : RepE K R a H v x) (hb : bindT t x env = some env')
    (q : ∀ σ', EnvE K R a H σ' env' → OwnNe D σ' env' → (∀ us, (∀ i ∈ tgIx t, i ∈ us) → L2.wipe σ' us = L2.wipe σ us) → Q σ' H) : gTg K t v σ H Q := by
  cases t with
  | nm i =>
    simp only [bindT] at hb
    split at hb
    · cases hb
    · rename_i ho
      simp only [Option.some.injEq] at hb
      subst hb
      exact q _ (e.set r i) (o.set (by simpa using ho) i) fun us hu => wipe_set (hu i (by simp [tgIx]))
  | tp l =>
    simp only [bindT] at hb
    split at hb
    · rename_i xs
      split at hb
      · rename_i hl
        simp only [Option.some.injEq] at hb
        subst hb
        obtain ⟨p, vs, rfl, h1, n1, rs⟩ := r.tup
        refine .inl ⟨p, vs, rfl, SqT.of h1, by rw [rs.length]; exact hl, ?_⟩
        exact nms_okN l e o rs hl fun σ' e' o' hw => q σ' e' o' hw
      · cases hb
    · rename_i xs
      split at hb
      · rename_i hl
        simp only [Option.some.injEq] at hb
        subst hb
        cases (show Rep K R a H v (.lst xs) from r) with
        | lst h1 n1 q1 rs =>
          refine .inr ⟨_, _, rfl, SqL.of h1, by rw [rs.length]; exact hl, ?_⟩
          exact nms_okN l e o rs hl fun σ' e' o' hw => q σ' e' o' hw
      · cases hb
    · cases hb
theorem envE_but {H' : Hp} {l : List V} (k : ∀ b o, H b = some o → b ≠ a → b ≠ D → H' b = some o) (hD : H D = some (.lst l)) (e : EnvE K (but R D) a H σ env) (o : OwnNe D σ env) : EnvE K (but R D) a H' σ env := by
  refine ⟨e.len, fun i x h => ?_⟩
  obtain ⟨v, h1, h2⟩ := e.get i x h
  refine ⟨v, h1, ?_⟩
  cases x with
  | own ys =>
    obtain ⟨l2, ws, rfl, e2, n2, r2⟩ := h2
    exact ⟨l2, ws, rfl, k _ _ e2 n2 (o i ys l2 h h1), n2, reps_but k hD r2⟩
  | _ => exact rep_but k hD h2
end
/-! ### two clauses -/
theorem lcB_it {J : It} {nn : Nat} {G : Hp → Prop} {Y : Nat → Hp → V → Hp → Prop} (w : Walk J nn G Y) {g : TG} {tt : TT} {B : L2.St → Hp → (Hp → Prop) → Prop} {vs : List Nat} {σ : L2.St} {H0 : Hp} {Qd : Hp → Prop} (Pv : Nat → Hp → Prop) (h0 : Pv 0 H0) (hG : ∀ i H, i ≤ nn → Pv i H → G H)
    (hs : ∀ i x H H', i < nn → Pv i H → Y i H x H' → g x (L2.wipe σ vs) H' fun σ2 H2 => L2.wipe σ2 vs = L2.wipe σ vs ∧ tt σ2 H2 fun b H3 => if b = true then B σ2 H3 (Pv (i + 1)) else Pv (i + 1) H3) (hd : ∀ H, Pv nn H → Qd H) :
    ∃ W : Nat → Nat → Hp → Prop, (∃ m, W 0 m H0) ∧ ∀ i m H, W i m H →
      (J.stop i H ∧ Qd H) ∨ (J.go i H ∧ ∃ Nx : Hp → Prop, (∀ H', Nx H' → ∃ m', m' < m ∧ W (i + 1) m' H') ∧ ∀ x H', J.yld i H x H' → g x (L2.wipe σ vs) H' fun σ2 H2 => L2.wipe σ2 vs = L2.wipe σ vs ∧ tt σ2 H2 fun b H3 => if b = true then B σ2 H3 Nx else Nx H3) := by
  refine ⟨fun i m H => m = nn - i ∧ i ≤ nn ∧ Pv i H, ⟨nn, by simp, Nat.zero_le _, h0⟩, ?_⟩
  rintro i m H ⟨rfl, hi, p⟩
  have q := hG i H hi p
  by_cases hlt : i < nn
  · exact .inr ⟨w.goes i H hlt q, Pv (i + 1), fun H' p' => ⟨nn - (i + 1), by omega, rfl, hlt, p'⟩, fun x H' y => hs i x H H' hlt p (w.yields i H x H' hlt q y)⟩
  · have e : i = nn := by omega
    subst e
    exact .inl ⟨w.stops H q, hd H p⟩
theorem compLL_step {step : PV → Strm → Option (List PV × Strm)} {l : List PV} {S S2 : Strm} {ys : List PV} {x : PV} {i : Nat} (h : compLL step (l.drop i) S = some (ys, S2)) (hx : l[i]? = some x) :
    ∃ r S1 ys', step x S = some (r, S1) ∧ compLL step (l.drop (i + 1)) S1 = some (ys', S2) ∧ ys = r ++ ys' := by
  obtain ⟨hi, e⟩ := List.getElem?_eq_some_iff.mp hx
  have ed : l.drop i = x :: l.drop (i + 1) := by rw [List.drop_eq_getElem_cons hi, e]
  rw [ed] at h
  simp only [compLL, Option.bind_eq_some_iff, Option.map_eq_some_iff] at h
  obtain ⟨⟨r, S1⟩, h1, ⟨ys', S3⟩, h2, h3⟩ := h
  simp only [Prod.mk.injEq] at h3
  obtain ⟨h3, rfl⟩ := h3
  exact ⟨r, S1, ys', h1, h2, h3.symm⟩
section
variable {T : Tbl} {X : Cx} {n : Nat}
variable {elt' : CE} {tg' tg1' : Tg} {it' it1' : CI} {ifs' ifs1' : Option CE} {own : List (Str × Nat)}
theorem tV_tF2 {σ : L2.St} {H : Hp} {Q : VK} (hq : tV T X.K (n + 1) (.comp2 elt' tg' it' ifs' tg1' it1' ifs1' own) σ H Q) : tF T X.K (n + 1) (.comp2 elt' tg' it' ifs' tg1' it1' ifs1' own) σ H Q := by
  obtain ⟨R, ad, env, S, w, S', A, e1, q⟩ := hq
  have e0 := e1
  simp only [evE, Option.bind_eq_some_iff] at e1
  obtain ⟨⟨its, S1⟩, e1, ⟨ys, S2⟩, e2, e3⟩ := e1
  split at e3
  case isFalse => cases e3
  simp only [Option.some.injEq, Prod.mk.injEq] at e3
  obtain ⟨rfl, rfl⟩ := e3
  exact ⟨R, ad, env, S, ys, S2, A, e0, fun p vs H' k s hp hp' r => q _ H' k s (Rep.toE (.lst hp' (A.fr.ne hp) (A.fr.fc p hp) (r.mono (fun b h => h.1) Keep.refl)))⟩
/-- tests, by what they are worth -/
theorem tIf_ok {R : Addr → Prop} {ad : Addr} {σ : L2.St} {H : Hp} {env : Env} {S : Strm} {ifs : Option CE} {b : Bool} {S' : Strm} {Q : Bool → Hp → Prop} (A : At X.K σ H R ad env S) (h : testV (fun e env S => evE T n e env S) ifs env S = some (b, S')) (q : ∀ H', Keep ad H H' → SRel X.K R ad H' S' → Q b H') : tIf T X.K n ifs σ H Q := by
  cases ifs with
  | none =>
    simp only [testV, Option.some.injEq, Prod.mk.injEq] at h
    obtain ⟨rfl, rfl⟩ := h
    exact q H Keep.refl A.sr
  | some d =>
    simp only [testV, Option.bind_eq_some_iff, Option.map_eq_some_iff] at h
    obtain ⟨⟨v, S5⟩, h1, k, h2, h3⟩ := h
    simp only [Prod.mk.injEq] at h3
    obtain ⟨rfl, rfl⟩ := h3
    exact ⟨R, ad, env, S, v, S5, k, A, h1, h2, q⟩
theorem comp2_ok {σ : L2.St} {H : Hp} {Q : VK} (hin : tgIn tg' (own.map (·.2)) = true) (hq : tF T X.K (n + 1) (.comp2 elt' tg' it' ifs' tg1' it1' ifs1' own) σ H Q) :
      tLc2 (tI T X.K true n it') (gTg X.K tg') (tIf T X.K n ifs') (tI T X.K false n it1') (gTg X.K tg1') (tIf T X.K n ifs1') (tV T X.K n elt') (own.map (·.2)) (tgIx tg1') σ H Q := by
  obtain ⟨R, ad, env, S, w, S', A, e1, q⟩ := hq
  simp only [evE, Option.bind_eq_some_iff] at e1
  obtain ⟨⟨its, S1⟩, e1, ⟨ys, S2⟩, e2, e3⟩ := e1
  split at e3
  case isFalse => cases e3
  rename_i hlen
  simp only [Option.some.injEq, Prod.mk.injEq, PV.lst.injEq] at e3
  obtain ⟨rfl, rfl⟩ := e3
  refine ⟨R, ad, env, S, its, S1, A, e1, fun J H1 k1 s1 io D hD => ?_⟩
  obtain ⟨G, Y, wk, hG, hY⟩ := io.walk
  have f1 := A.fr.keep k1
  have hDa : D ≠ ad := f1.ne hD
  refine lcB_it wk (fun i H' => ∃ Si acc accP rest, Keep ad H1 H' ∧ SRel X.K (but R D) ad H' Si ∧ H' D = some (.lst acc) ∧ Reps X.K (but R D) ad H' acc accP ∧
    compLL (step2V (fun e env S => evE T n e env S) elt' tg' ifs' tg1' it1' ifs1' (wipeE env (own.map (·.2)))) (its.drop i) Si = some (rest, S2) ∧ accP ++ rest = ys) ?_ ?_ ?_ ?_
  · exact ⟨S1, [], [], ys, Keep.upd hD, SRel.updD hDa (s1.toD hD), upd_same, .nil, e2, rfl⟩
  · rintro i H' hi ⟨Si, acc, accP, rest, k2, _⟩
    exact hG H' fun b o e nb _ => k2.1 b o e nb
  · rintro i x H2 H3 hi ⟨Si, acc, accP, rest, k2, s2, d2, r2, c2, p2⟩ y3
    have nD2 : H2 D ≠ none := by rw [d2]; exact fun z => by cases z
    have f2 : Fresh (but R D) ad H2 := f1.but k2 nD2
    obtain ⟨nw, y, hy, ry⟩ := hY (but R D) H2 f2 (fun vs xs r => r.toD hD k2) i x H3 hi y3
    obtain ⟨rr, S3, rest', st, c3, ej⟩ := compLL_step c2 hy
    simp only [step2V, Option.bind_eq_some_iff] at st
    obtain ⟨env1, hb, ⟨b, S4⟩, ht, hlast⟩ := st
    have k3 : Keep ad H2 H3 := nw.keep
    have k13 : Keep ad H1 H3 := k2.trans k3
    have en : EnvE X.K (but R D) ad H3 (wipe σ (own.map (·.2))) (wipeE env (own.map (·.2))) := ((A.en.keep k1).toD hD k13).wipe _
    have on : OwnNe D (wipe σ (own.map (·.2))) (wipeE env (own.map (·.2))) := (OwnNe.of (A.en.keep k1) hD).wipe A.en.len _
    refine bind_okN en on ry.toE hb fun σ' en' on' hw => ⟨?_, ?_⟩
    · rw [hw _ fun i hi => by have := List.all_eq_true.mp hin i hi; simpa using this, wipe_wipe]
    have f3 : Fresh (but R D) ad H3 := f2.keep k3
    have s3 : SRel X.K (but R D) ad H3 Si := nw.srel s2
    refine tIf_ok ⟨f3, en', s3⟩ ht fun H4 k4 s4 => ?_
    have d4 : H4 D = some (.lst acc) := k4.1 _ _ (k3.1 _ _ d2 hDa) hDa
    have r4 : Reps X.K (but R D) ad H4 acc accP := (r2.keep k3).keep k4
    have k14 : Keep ad H1 H4 := k13.trans k4
    cases b with
    | false =>
      refine iteF ?_
      rw [if_neg Bool.false_ne_true] at hlast
      simp only [Option.some.injEq, Prod.mk.injEq] at hlast
      obtain ⟨rfl, rfl⟩ := hlast
      exact ⟨_, acc, accP, rest', k14, s4, d4, r4, c3, by rw [← p2, ej]; rfl⟩
    | true =>
      refine iteT ?_
      rw [if_pos rfl] at hlast
      simp only [Option.bind_eq_some_iff] at hlast
      obtain ⟨⟨its1, S5⟩, e5, e6⟩ := hlast
      refine ⟨but R D, ad, env1, S4, its1, S5, ⟨f3.keep k4, en'.keep k4, s4⟩, e5, fun J1 H5 k5 s5 io1 => ?_⟩
      obtain ⟨G1, Y1, wk1, hG1, hY1⟩ := io1.walk
      have k15 : Keep ad H1 H5 := k14.trans k5
      -- the second clause
      refine lcB_it (B := fun σ3 H6 Nx => tV T X.K n elt' σ3 H6 fun y H7 => ∃ acc, H7 D = some (.lst acc) ∧ acc.length < sizeLine ∧ Nx (L2.upd H7 D (.lst (acc ++ [y])))) wk1 (fun j H' => ∃ Sj acc accP rest1, Keep ad H1 H' ∧ (∀ b o, H5 b = some o → b ≠ ad → b ≠ D → H' b = some o) ∧ SRel X.K (but R D) ad H' Sj ∧ H' D = some (.lst acc) ∧ Reps X.K (but R D) ad H' acc accP ∧
        compL (stepV (fun e env S => evE T n e env S) elt' tg1' ifs1' (wipeE env1 (tgIx tg1'))) (its1.drop j) Sj = some (rest1, S3) ∧ accP ++ (rest1 ++ rest') = ys) ?_ ?_ ?_ ?_
      · exact ⟨S5, acc, accP, rr, k15, fun b o h _ _ => h, s5, k5.1 _ _ d4 hDa, r4.keep k5, e6, by rw [← ej]; exact p2⟩
      · rintro j H' hj ⟨Sj, acc', accP', rest1, k6, kk, _⟩
        refine hG1 H' fun b o e nb hh => kk b o e nb fun z => ?_
        have d5 : H5 D = some (.lst acc) := k5.1 _ _ d4 hDa
        rcases hh with hh | hh | ⟨vs, rfl⟩
        · cases hh
        · exact hh.2 z
        · rw [z, d5] at e; cases e
      · rintro j x1 H6 H7 hj ⟨Sj, acc6, accP6, rest1, k6, kk, s6, d6, r6, c6, p6⟩ y7
        have nD6 : H6 D ≠ none := by rw [d6]; exact fun z => by cases z
        have f6 : Fresh (but R D) ad H6 := f1.but k6 nD6
        have k56 : ∀ {vs : List V} {xs : List PV}, Reps X.K (but R D) ad H5 vs xs → Reps X.K (but R D) ad H6 vs xs := fun r => reps_but kk (k5.1 _ _ d4 hDa) r
        obtain ⟨nw7, y1, hy1, ry1⟩ := hY1 (but R D) H6 f6 (fun vs xs r => k56 r) j x1 H7 hj y7
        obtain ⟨r1, S6, rest2, st1, c7, ej1⟩ := compL_step c6 hy1
        simp only [stepV, Option.bind_eq_some_iff] at st1
        obtain ⟨env2, hb1, ⟨b1, S7⟩, ht1, hlast1⟩ := st1
        have k7 : Keep ad H6 H7 := nw7.keep
        have k17 : Keep ad H1 H7 := k6.trans k7
        have en1 : EnvE X.K (but R D) ad H7 (wipe σ' (tgIx tg1')) (wipeE env1 (tgIx tg1')) := (((envE_but kk (k5.1 _ _ d4 hDa) ((en'.keep k4).keep k5) on').keep k7).wipe _)
        refine bind_ok en1 ry1.toE hb1 fun σ2 en2 hw2 => ⟨?_, ?_⟩
        · rw [hw2 _ fun i hi => hi, wipe_wipe]
        have f7 : Fresh (but R D) ad H7 := f6.keep k7
        have s7 : SRel X.K (but R D) ad H7 Sj := nw7.srel s6
        refine tIf_ok ⟨f7, en2, s7⟩ (show testV (fun e env S => evE T n e env S) ifs1' env2 Sj = some (b1, S7) by cases ifs1' <;> exact ht1) fun H8 k8 s8 => ?_
        have d8 : H8 D = some (.lst acc6) := k8.1 _ _ (k7.1 _ _ d6 hDa) hDa
        have r8 : Reps X.K (but R D) ad H8 acc6 accP6 := (r6.keep k7).keep k8
        have k18 : Keep ad H1 H8 := k17.trans k8
        have kk8 : ∀ b o, H5 b = some o → b ≠ ad → b ≠ D → H8 b = some o := fun b o e n1 n2 => k8.1 _ _ (k7.1 _ _ (kk b o e n1 n2) n1) n1
        cases b1 with
        | false =>
          refine iteF ?_
          rw [if_neg Bool.false_ne_true] at hlast1
          simp only [Option.some.injEq, Prod.mk.injEq] at hlast1
          obtain ⟨rfl, rfl⟩ := hlast1
          exact ⟨_, acc6, accP6, rest2, k18, kk8, s8, d8, r8, c7, by rw [← p6, ej1]⟩
        | true =>
          refine iteT ?_
          rw [if_pos rfl] at hlast1
          simp only [Option.bind_eq_some_iff] at hlast1
          obtain ⟨⟨z, S9⟩, h1, h2⟩ := hlast1
          split at h2
          · cases h2
          rename_i ho
          simp only [Option.some.injEq, Prod.mk.injEq] at h2
          obtain ⟨rfl, rfl⟩ := h2
          refine ⟨_, ad, env2, S7, z, S9, ⟨f7.keep k8, en2.keep k8, s8⟩, h1, fun u H9 k9 s9 r9 => ?_⟩
          have d9 : H9 D = some (.lst acc6) := k9.1 _ _ d8 hDa
          have rz : Rep X.K (but R D) ad H9 u z := r9.rep (by simpa using ho)
          refine ⟨acc6, d9, ?_, S9, acc6 ++ [u], accP6 ++ [z], rest2, ?_, ?_, SRel.updD hDa s9, upd_same, ?_, c7, ?_⟩
          · have hs : sizeLine = 16777216 := sizeLine_eq
            have h5 : ys.length ≤ 1000000 := hlen
            have h6 := r6.length
            have h7 : accP6.length ≤ ys.length := by rw [← p6, List.length_append]; omega
            omega
          · exact Keep.updD hD hDa (k18.trans k9)
          · intro b o e n1 n2
            rw [upd_ne n2]
            exact k9.1 _ _ (kk8 b o e n1 n2) n1
          · exact (Reps.updD d9 (r8.keep k9)).append (.cons (Rep.updD d9 rz) .nil)
          · rw [← p6, ej1]; simp
      · rintro H' ⟨Sj, acc, accP, rest1, k6, kk, s6, d6, r6, c6, p6⟩
        rw [List.drop_length] at c6
        simp only [compL, Option.some.injEq, Prod.mk.injEq] at c6
        obtain ⟨rfl, rfl⟩ := c6
        exact ⟨_, acc, accP, rest', k6, s6, d6, r6, c3, p6⟩
  · rintro H' ⟨Si, acc, accP, rest, k2, s2, d2, r2, c2, p2⟩
    rw [List.drop_length] at c2
    simp only [compLL, Option.some.injEq, Prod.mk.injEq] at c2
    obtain ⟨rfl, rfl⟩ := c2
    rw [List.append_nil] at p2
    subst p2
    exact q D acc H' (k1.trans k2) (s2.mono fun b h => h.1) (k1.fresh hD) d2 r2
theorem pe_comp2V {elt tg it tg1 it1 : Expr} {ifs ifs1 : List Expr} {scope : Scope} {pos : Pos}
    (hc : X.calm = true) (hN : X.N.Nodup) (hi : PI X tg it (tI T X.K true n it')) (ok : BlkOk X.N X.env.scope scope own) (hin : tgIn tg' (own.map (·.2)) = true) (hin1 : tgIn tg1' (own.map (·.2)) = true)
    (hg : ∀ (s : Shared) (H : Hp) (C : Addr) (cl : List (Str × Addr)) (fp : List Addr), PG (X.blk s H scope (compEnvC scope cl C X.env) fp) tg (gTg X.K tg'))
    (ht : ∀ (s : Shared) (H : Hp) (C : Addr) (cl : List (Str × Addr)) (fp : List Addr), PTs (X.blk s H scope (compEnvC scope cl C X.env) fp) ifs (tIf T X.K n ifs'))
    (hi1 : ∀ (s : Shared) (H : Hp) (C : Addr) (cl : List (Str × Addr)) (fp : List Addr), PI (X.blk s H scope (compEnvC scope cl C X.env) fp) tg1 it1 (tI T X.K false n it1'))
    (hg1 : ∀ (s : Shared) (H : Hp) (C : Addr) (cl : List (Str × Addr)) (fp : List Addr), PG (X.blk s H scope (compEnvC scope cl C X.env) fp) tg1 (gTg X.K tg1'))
    (ht1 : ∀ (s : Shared) (H : Hp) (C : Addr) (cl : List (Str × Addr)) (fp : List Addr), PTs (X.blk s H scope (compEnvC scope cl C X.env) fp) ifs1 (tIf T X.K n ifs1'))
    (he : ∀ (s : Shared) (H : Hp) (C : Addr) (cl : List (Str × Addr)) (fp : List Addr), PE (X.blk s H scope (compEnvC scope cl C X.env) fp) elt (tV T X.K n elt')) (hs : ∀ x, foldedSetIterable it X.env x = pure x) (hs1 : ∀ env x, foldedSetIterable it1 env x = pure x) :
    PE X (.ListComp elt [⟨tg, it, ifs, 0⟩, ⟨tg1, it1, ifs1, 0⟩] scope pos) (tV T X.K (n + 1) (.comp2 elt' tg' it' ifs' tg1' it1' ifs1' own)) := by
  refine (pe_lc2 hc hN hi ok (fun i hi => by have := List.all_eq_true.mp hin1 i hi; simpa using this) hg ht hi1 hg1 ht1 he hs hs1).imp fun σ H Q hq => ?_
  exact comp2_ok hin (tV_tF2 hq)
end
end Ws

/-! Ws10: every expression that the check takes. -/
namespace Ws
open PySem PySem.Spec PyProof.Rows L2

theorem fold_id {it : Expr} {env : PySem.Env} (h : notSet it = true) : ∀ x, foldedSetIterable it env x = pure x := by
  intro x
  cases it <;> first | rfl | (simp [notSet] at h)
theorem chkI_ev {T : Tbl} {bts N : List Str} {sc : Scope} {X : Cx} {n : Nat} {ok : Bool} {ck : Expr → CE → Bool} (g : Good T bts N sc X) (ih : ∀ e c, ck e c = true → PE X e (tV T X.K n c)) {tg e : Expr} {it : CI} (h : chkI bts ck sc tg e it = true) : PI X tg e (tI T X.K ok n it) := by
  unfold chkI at h
  split at h
  · simp only [Bool.and_eq_true, beq_iff_eq] at h
    obtain ⟨⟨⟨⟨h1, h2⟩, h3⟩, h4⟩, h5⟩ := h
    subst h1
    exact pi_rng1V (g.gl h2) (g.bt h3) (ih _ _ h5) h4
  · simp only [Bool.and_eq_true, beq_iff_eq] at h
    obtain ⟨⟨⟨⟨⟨⟨h1, h2⟩, h3⟩, h4⟩, h4'⟩, h5⟩, h5'⟩ := h
    subst h1
    exact pi_rng2V (g.gl h2) (g.bt h3) (ih _ _ h5) (ih _ _ h5') h4 h4'
  · simp only [Bool.and_eq_true, beq_iff_eq] at h
    obtain ⟨⟨⟨⟨⟨⟨⟨h1, h2⟩, h3⟩, h4⟩, h4'⟩, ht⟩, h5⟩, h5'⟩ := h
    subst h1
    cases tg with
    | Tuple es k p => exact pi_zipV (g.gl h2) (g.bt h3) (ih _ _ h5) (ih _ _ h5') h4 h4'
    | _ => simp [isTupE] at ht
  · simp only [Bool.and_eq_true, beq_iff_eq] at h
    obtain ⟨⟨⟨⟨⟨⟨⟨⟨⟨rfl, h2⟩, h3⟩, rfl⟩, h5⟩, h6⟩, h7⟩, h8⟩, h9⟩, h10⟩ := h
    exact pi_cb1V g.calm (g.gl h2) (g.cmb h3) (g.gl h5) (g.bt h6) (ih _ _ h9) (ih _ _ h10) h7 h8
  · simp only [Bool.and_eq_true, beq_iff_eq] at h
    obtain ⟨⟨⟨⟨⟨⟨⟨⟨⟨⟨⟨rfl, h2⟩, h3⟩, rfl⟩, h5⟩, h6⟩, h7⟩, h7'⟩, h8⟩, h9⟩, h9'⟩, h10⟩ := h
    exact pi_cb2V g.calm (g.gl h2) (g.cmb h3) (g.gl h5) (g.bt h6) (ih _ _ h9) (ih _ _ h9') (ih _ _ h10) h7 h7' h8
  · simp only [Bool.and_eq_true, beq_iff_eq] at h
    obtain ⟨⟨⟨⟨⟨⟨rfl, h2⟩, h3⟩, h7⟩, h8⟩, h9⟩, h10⟩ := h
    exact pi_cblV g.calm (g.gl h2) (g.cmb h3) (ih _ _ h9) (ih _ _ h10) h7 h8
  · simp only [Bool.and_eq_true, beq_iff_eq] at h
    obtain ⟨⟨⟨⟨⟨rfl, h2⟩, h3⟩, h4⟩, ht⟩, h5⟩ := h
    cases tg with
    | Tuple es k p => exact pi_enumV (g.gl h2) (g.bt h3) (ih _ _ h5) h4
    | _ => simp [isTupE] at ht
  · exact pi_seqV (ih _ _ h)
  · cases h
theorem fold_idE {it : Expr} (h : notSet it = true) : ∀ env x, foldedSetIterable it env x = pure x := fun env => fold_id h
theorem chkIf_ev {T : Tbl} {X : Cx} {n : Nat} {ck : Expr → CE → Bool} (ih : ∀ e c, ck e c = true → PT X e (tB T X.K n c)) {ifs : List Expr} {ifs' : Option CE} (h : chkIf ck ifs ifs' = true) : PTs X ifs (tIf T X.K n ifs') := by
  unfold chkIf at h
  split at h
  · exact pts_nil
  · exact pts_one (ih _ _ h)
  · cases h
theorem Good.sto {T : Tbl} {bts N : List Str} {sc : Scope} {X : Cx} (g : Good T bts N sc X) (s : Shared) (H : Hp) (scope : Scope) (C : Addr) (cl : List (Str × Addr)) (fp : List Addr) : Sto (X.blk s H scope (compEnvC scope cl C X.env) fp) N scope := by
  refine ⟨g.hN, by show X.N.Nodup; rw [g.hN]; exact g.nd, fun x h => ?_⟩
  unfold Ws.loc at h
  split at h <;> rename_i e
  · have e2 : (relS scope X.env.scope).names.lookup x = some .local := lookup_relS_keep (by decide) e
    exact ⟨.inl e2, .inr e2⟩
  · have e2 : (relS scope X.env.scope).names.lookup x = some .cell := lookup_relS_keep (by decide) e
    exact ⟨.inr e2, .inl (by show (scope.names.lookup x == some NameKind.cell) = true; rw [e]; decide)⟩
  · cases h
theorem tyBoot {s : String} (h : (["int", "str", "bool", "tuple", "list"].contains s) = true) : bootBuiltins (Str.ofString s) = some (.type s) ∧ (Str.ofString s) ≠ "__name__" ∧ ((Str.ofString s) == ("__debug__" : Str)) = false := by
  have h : s = "int" ∨ s = "str" ∨ s = "bool" ∨ s = "tuple" ∨ s = "list" := by simpa using h
  rcases h with rfl | rfl | rfl | rfl | rfl <;> exact ⟨by decide +kernel, by decide, by decide⟩
theorem btV_ty {s : String} (h : (["int", "str", "bool", "tuple", "list"].contains s) = true) : btV (Str.ofString s) = none := by
  have h : s = "int" ∨ s = "str" ∨ s = "bool" ∨ s = "tuple" ∨ s = "list" := by simpa using h
  rcases h with rfl | rfl | rfl | rfl | rfl <;> decide
theorem okN {x : Str} (h : okName x = true) : (x == ("__debug__" : Str)) = false ∧ (x == ("__classdict__" : Str)) = false := by
  unfold okName at h
  simp only [Bool.and_eq_true, Bool.not_eq_true'] at h
  exact h
theorem both {T : Tbl} {X : Cx} {n : Nat} {e : Expr} {c : CE} (he : ∀ whole, isTrue e X.env whole = (do let v ← whole; standAt e.pos; holding [v] (truthy v))) (k : PE X e (tV T X.K n c)) : PE X e (tV T X.K n c) ∧ PT X e (tB T X.K n c) := ⟨k, ptOf k he⟩
theorem ev_ok {T : Tbl} {bts N : List Str} : ∀ (m n : Nat) (sc : Scope) (X : Cx) (e : Expr) (c : CE), Good T bts N sc X → chkE bts N m sc e c = true → PE X e (tV T X.K n c) ∧ PT X e (tB T X.K n c)
  | 0, n, sc, X, e, c, g, h => by simp [chkE] at h
  | m + 1, 0, sc, X, e, c, g, h => ⟨pe_zero, pt_zero⟩
  | m + 1, n + 1, sc, X, e, c, g, h => by
    have ihP : ∀ e c, chkE bts N m sc e c = true → PE X e (tV T X.K n c) := fun e c h => (ev_ok m n sc X e c g h).1
    have ihT : ∀ e c, chkE bts N m sc e c = true → PT X e (tB T X.K n c) := fun e c h => (ev_ok m n sc X e c g h).2
    unfold chkE at h
    split at h
    · -- one of and, or
      obtain ⟨h1, h2⟩ := ev_ok m (n + 1) sc X _ _ g h
      refine ⟨pe_one h1, ?_⟩
      rename_i op x p
      cases op with
      | And => exact (pw_and1 h2).pt
      | Or => exact (pw_or1 h2).pt
    · exact both (fun _ => rfl) (pe_const (T := T) (n := n) (c := .non) (x := .non) pe_non (fun _ _ => rfl) .non)
    · rename_i b _ _ b'
      have e : b = b' := by simpa using h
      subst e
      exact both (fun _ => rfl) (pe_const (T := T) (n := n) (c := .bl b) (x := .bl b) pe_bl (fun _ _ => rfl) (.bl b))
    · rename_i b _ _ b'
      have e : b = b' := by simpa using h
      subst e
      exact both (fun _ => rfl) (pe_const (T := T) (n := n) (c := .int b) (x := .int b) pe_int (fun _ _ => rfl) (.int b))
    · rename_i b _ _ b'
      have e : b = b' := by simpa using h
      subst e
      exact both (fun _ => rfl) (pe_const (T := T) (n := n) (c := .str b) (x := .str b) pe_str (fun _ _ => rfl) (.str b))
    · simp only [Bool.and_eq_true, beq_iff_eq] at h
      obtain ⟨⟨⟨h1, h2⟩, h3⟩, h4⟩ := h
      subst h4
      rename_i p s
      obtain ⟨t1, t2, t3⟩ := tyBoot h3
      exact both (fun _ => rfl) (pe_const (T := T) (n := n) (c := .ty s) (x := .ty s) (pe_bltn (X := X) (pos := p) (v := .ty s) (g.gl h1) (g.bt h2 (btV_ty h3)) t1 rfl t2 t3) (fun _ _ => rfl) (.ty s))
    · simp only [Bool.and_eq_true] at h
      obtain ⟨⟨h1, h2⟩, h3⟩ := h
      obtain ⟨d1, d2⟩ := okN h3
      exact both (fun _ => rfl) (pe_varV (T := T) (n := n) (pe_var (X := X) (g.ix h1) (g.vis h2) d1 d2))
    · simp only [Bool.and_eq_true, beq_iff_eq] at h
      obtain ⟨⟨h1, h2⟩, h3⟩ := h
      subst h1
      obtain ⟨d1, d2⟩ := okN h3
      rename_i x p
      have k : PE X (.Name x p) (tV T X.K (n + 1) (.glo x)) := by
        refine ⟨fun pins s σ H Q I hq => ?_⟩
        obtain ⟨R, ad, env, S, w, S', A, e1, q⟩ := hq
        simp only [evE, Option.map_eq_some_iff] at e1
        obtain ⟨i, h4, h5⟩ := e1
        simp only [Prod.mk.injEq] at h5
        obtain ⟨rfl, rfl⟩ := h5
        obtain ⟨t, ht⟩ := g.glo x i h4
        exact (pe_glob (X := X) (v := .int i) (g.gl h2) ht ⟨t, rfl⟩ d1).run pins s σ H Q I (q _ H Keep.refl A.sr (Rep.int i).toE)
      exact ⟨k, ptOf k fun _ => rfl⟩
    · exact both (fun _ => rfl) (pe_tupV (pa_ev ihP _ _ h))
    · exact both (fun _ => rfl) (pe_lstV (pa_ev ihP _ _ h))
    · simp only [Bool.and_eq_true, beq_iff_eq] at h
      obtain ⟨⟨h1, h2⟩, h3⟩ := h
      subst h1
      exact both (fun _ => rfl) (pe_binV (ihP _ _ h2) (ihP _ _ h3))
    · exact both (fun _ => rfl) (pe_negV (ihP _ _ h))
    · exact ⟨pe_notV (ihP _ _ h), pt_notV (ihT _ _ h)⟩
    · simp only [Bool.and_eq_true] at h
      exact ⟨pe_andV (ihP _ _ h.1) (ihP _ _ h.2), pt_andV (ihT _ _ h.1) (ihT _ _ h.2)⟩
    · simp only [Bool.and_eq_true] at h
      exact ⟨pe_orV (ihP _ _ h.1) (ihP _ _ h.2), pt_orV (ihT _ _ h.1) (ihT _ _ h.2)⟩
    · simp only [Bool.and_eq_true, beq_iff_eq] at h
      obtain ⟨⟨⟨h1, h2⟩, h3⟩, h4⟩ := h
      subst h1
      exact pe_cmpV g.room (ihP _ _ h2) (ihP _ _ h3) h4
    · simp only [Bool.and_eq_true, beq_iff_eq] at h
      obtain ⟨⟨⟨⟨⟨h1, h1'⟩, h2⟩, h3⟩, h4⟩, h5⟩ := h
      subst h1
      subst h1'
      exact pe_chainV g.room (ihP _ _ h2) (ihP _ _ h3) (ihP _ _ h4) h5
    · simp only [Bool.and_eq_true] at h
      exact ⟨pe_iteV (ihT _ _ h.1.1) (ihP _ _ h.1.2) (ihP _ _ h.2), pt_iteV (ihT _ _ h.1.1) (ihT _ _ h.1.2) (ihT _ _ h.2)⟩
    · simp only [Bool.and_eq_true] at h
      exact both (fun _ => rfl) (pe_sliV (ihP _ _ h.1.1) (po_ev ihP _ _ h.1.2) (po_ev ihP _ _ h.2))
    · simp only [Bool.and_eq_true] at h
      refine both (fun _ => rfl) (pe_idxV (ihP _ _ h.1.1) (ihP _ _ h.1.2) ?_)
      have h2 := h.2
      split at h2
      · cases h2
      · rename_i hn
        unfold notSlice
        split
        · exact absurd rfl (hn _ _ _ _)
        · rfl
    · simp only [Bool.and_eq_true, beq_iff_eq] at h
      obtain ⟨⟨⟨h1, h2⟩, h3⟩, h4⟩ := h
      subst h1
      obtain ⟨d1, d2⟩ := okN h3
      rename_i x p y es pp l
      have k : PE X (.Call (.Name x p) (y :: es) [] pp) (tV T X.K (n + 1) (.call x l)) := by
        cases hT : T.fn x with
        | none => exact ⟨fun _ _ _ _ _ _ ⟨_, _, _, _, _, _, _, e, _⟩ => by simp [evE, hT] at e⟩
        | some φ => 
          have t : chkL (chkE bts N m sc) es l.tail = true := by
            cases l with
            | nil => simp [chkL] at h4
            | cons a l => simp only [chkL, Bool.and_eq_true] at h4; exact h4.2
          exact pe_callV hT (g.fns x φ hT) (g.gl h2) d1 (pa_ev ihP _ _ h4) (chkL_ne h4) (chkL_plain t)
      exact ⟨k, ptOf k fun _ => rfl⟩
    · simp only [Bool.and_eq_true, beq_iff_eq] at h
      obtain ⟨⟨⟨h1, h2⟩, h3⟩, h4⟩ := h
      subst h1
      rename_i p y es _ b l
      have t : chkL (chkE bts N m sc) es l.tail = true := by
        cases l with
        | nil => simp [chkL] at h4
        | cons a l => simp only [chkL, Bool.and_eq_true] at h4; exact h4.2
      exact both (fun _ => rfl) (pe_biV (T := T) (n := n) (p := p) (ck := chkE bts N m sc) g.room g.calm (g.gl h2) (g.bt h3 (btV_bi _)) (pa_ev ihP _ _ h4) (chkL_ne h4) (chkL_plain t))
    · simp only [Bool.and_eq_true] at h
      obtain ⟨⟨⟨⟨⟨⟨h1, h2⟩, h3⟩, h4⟩, h5⟩, h6⟩, h7⟩ := h
      rename_i elt tg it ifs scope p elt' tg' it' ifs' own
      have k : PE X (.ListComp elt [⟨tg, it, ifs, 0⟩] scope p) (tV T X.K (n + 1) (.comp elt' tg' it' ifs' own)) := by
        refine pe_compV g.calm (by rw [g.hN]; exact g.nd) (chkI_ev g ihP h1) (blkOk_by (by rw [g.hN, g.hs]; exact h3)) h5 (fun s H C cl fp => pg_ev (X := X.blk s H scope (compEnvC scope cl C X.env) fp) g.calm (g.sto s H scope C cl fp) h4) (fun s H C cl fp => ?_) (fun s H C cl fp => (ev_ok m n _ _ _ _ (g.blk s H scope C cl fp) h7).1) (fold_id h2)
        cases ifs with
        | nil =>
          cases ifs' with
          | none => exact pts_nil
          | some d => cases h6
        | cons d r =>
          cases r with
          | cons _ _ => cases ifs' <;> cases h6
          | nil =>
            cases ifs' with
            | none => cases h6
            | some d' => exact pts_one (ev_ok m n _ _ _ _ (g.blk s H scope C cl fp) h6).2
      exact ⟨k, ptOf k fun _ => rfl⟩
    · simp only [Bool.and_eq_true] at h
      obtain ⟨⟨⟨⟨⟨⟨⟨⟨⟨⟨⟨h1, h2⟩, h2'⟩, h3⟩, h4⟩, h5⟩, h6⟩, h7⟩, h8⟩, h9⟩, h10⟩, h11⟩ := h
      rename_i elt tg it ifs tg1 it1 ifs1 scope p elt' tg' it' ifs' tg1' it1' ifs1' own
      have k : PE X (.ListComp elt [⟨tg, it, ifs, 0⟩, ⟨tg1, it1, ifs1, 0⟩] scope p) (tV T X.K (n + 1) (.comp2 elt' tg' it' ifs' tg1' it1' ifs1' own)) := by
        have gb := fun s H C cl fp => g.blk s H scope C cl fp
        refine pe_comp2V g.calm (by rw [g.hN]; exact g.nd) (chkI_ev g ihP h1) (blkOk_by (by rw [g.hN, g.hs]; exact h3)) h5 h7
          (fun s H C cl fp => pg_ev (X := X.blk s H scope (compEnvC scope cl C X.env) fp) g.calm (g.sto s H scope C cl fp) h4)
          (fun s H C cl fp => chkIf_ev (fun e c hh => (ev_ok m n _ _ e c (gb s H C cl fp) hh).2) h9)
          (fun s H C cl fp => chkI_ev (gb s H C cl fp) (fun e c hh => (ev_ok m n _ _ e c (gb s H C cl fp) hh).1) h8)
          (fun s H C cl fp => pg_ev (X := X.blk s H scope (compEnvC scope cl C X.env) fp) g.calm (g.sto s H scope C cl fp) h6)
          (fun s H C cl fp => chkIf_ev (fun e c hh => (ev_ok m n _ _ e c (gb s H C cl fp) hh).2) h10)
          (fun s H C cl fp => (ev_ok m n _ _ _ _ (gb s H C cl fp) h11).1) (fold_id h2) (fold_idE h2')
      exact ⟨k, ptOf k fun _ => rfl⟩
    · simp only [Bool.and_eq_true, beq_iff_eq] at h
      obtain ⟨h1, h2⟩ := h
      subst h1
      exact both (fun _ => rfl) (pe_revV (ihP _ _ h2))
    · simp only [Bool.and_eq_true, beq_iff_eq] at h
      obtain ⟨⟨⟨⟨⟨⟨h1, h2⟩, h3⟩, h4⟩, h5⟩, h6⟩, h7⟩ := h
      subst h1
      exact both (fun _ => rfl) (pe_gcdV (g.gl h2) (g.gcd h3) (ihP _ _ h6) (ihP _ _ h7) h4 h5)
    · simp only [Bool.and_eq_true, beq_iff_eq] at h
      obtain ⟨⟨⟨⟨⟨⟨⟨h1, h2⟩, h3⟩, h4⟩, h5⟩, h6⟩, h7⟩, h8⟩ := h
      subst h4
      exact both (fun _ => rfl) (pe_rg1V h1 g.calm (g.gl h2) (g.bt h3 (by rw [h1]; split <;> decide)) (g.gl h5) (g.bt h6) (ihP _ _ h8) h7)
    · simp only [Bool.and_eq_true, beq_iff_eq] at h
      obtain ⟨⟨⟨⟨⟨⟨⟨⟨⟨h1, h2⟩, h3⟩, h4⟩, h5⟩, h6⟩, h7⟩, h8⟩, h9⟩, h10⟩ := h
      subst h4
      exact both (fun _ => rfl) (pe_rg2V h1 g.calm (g.gl h2) (g.bt h3 (by rw [h1]; split <;> decide)) (g.gl h5) (g.bt h6) (ihP _ _ h9) (ihP _ _ h10) h7 h8)
    · cases h
end Ws

/-! Ws11: where a def's body stands between two statements. -/
namespace Ws
open PySem PySem.Spec PyProof.Rows L2

abbrev nO (R : Addr → Prop) (O : Addr → Prop) : Addr → Prop := fun b => R b ∧ ¬ O b
/-- O: the lists that a name holds alone; H0: the heap at the entry -/
structure StR (K : PySem.W.Frag) (R : Addr → Prop) (a : Addr) (H0 : Hp) (O : Addr → Prop) (σ : L2.St) (H : Hp) (env : Env) (S : Strm) : Prop where
  f0 : Fresh R a H0
  kp : Keep a H0 H
  ow : ∀ b, O b → (∃ vs, H b = some (.lst vs)) ∧ H0 b = none ∧ b ≠ a
  en : EnvE K (nO R O) a H σ env
  od : ∀ (i : Nat) (xs : List PV), env[i]? = some (some (.own xs)) → ∃ l : Addr, σ[i]? = some (some (.ref l)) ∧ O l
  ds : ∀ (i j : Nat) (xs ys : List PV), env[i]? = some (some (.own xs)) → env[j]? = some (some (.own ys)) → i ≠ j → σ[i]? ≠ σ[j]?
  sr : SRel K (nO R O) a H S
/-- what a run of statements leaves -/
structure Ev (a : Addr) (O : Addr → Prop) (H : Hp) (O' : Addr → Prop) (H' : Hp) : Prop where
  kp : ∀ b o, H b = some o → b ≠ a → ¬ O b → H' b = some o ∧ ¬ O' b
theorem Ev.refl {a : Addr} {O : Addr → Prop} {H : Hp} : Ev a O H O H := ⟨fun _ _ h _ n => ⟨h, n⟩⟩
theorem Ev.trans {a : Addr} {O O1 O2 : Addr → Prop} {H H1 H2 : Hp} (x : Ev a O H O1 H1) (y : Ev a O1 H1 O2 H2) : Ev a O H O2 H2 :=
  ⟨fun b o h n q => let ⟨h1, n1⟩ := x.kp b o h n q; y.kp b o h1 n n1⟩
theorem Ev.of {a : Addr} {O : Addr → Prop} {H H' : Hp} (k : Keep a H H') : Ev a O H O H' := ⟨fun b o h n q => ⟨k.1 b o h n, q⟩⟩
section
variable {K : PySem.W.Frag} {R : Addr → Prop} {a : Addr} {H0 H H1 : Hp} {O : Addr → Prop} {σ : L2.St} {env : Env} {S S1 : Strm}
theorem StR.fr (s : StR K R a H0 O σ H env S) : Fresh (nO R O) a H := ⟨fun b h => ⟨s.f0.fc b (s.kp.fresh h), fun o => by obtain ⟨⟨vs, e⟩, _⟩ := s.ow b o; rw [h] at e; cases e⟩, fun h => s.f0.na h.1⟩
theorem StR.at (s : StR K R a H0 O σ H env S) : At K σ H (nO R O) a env S := ⟨s.fr, s.en, s.sr⟩
theorem StR.step (s : StR K R a H0 O σ H env S) (k : Keep a H H1) (r : SRel K (nO R O) a H1 S1) : StR K R a H0 O σ H1 env S1 :=
  ⟨s.f0, s.kp.trans k, fun b o => let ⟨⟨vs, e⟩, h2, h3⟩ := s.ow b o; ⟨⟨vs, k.1 _ _ e h3⟩, h2, h3⟩, s.en.keep k, s.od, s.ds, r⟩
theorem nO_le {b : Addr} (h : nO R O b) : R b := h.1
/-- a name gets a value that is no owned list -/
theorem StR.set (s : StR K R a H0 O σ H env S) {v : V} {x : PV} (r : Rep K (nO R O) a H v x) (i : Nat) : StR K R a H0 O (σ.set i (some v)) H (env.set i (some x)) S := by
  have hn := r.noOwn
  have old : ∀ (j : Nat) (xs : List PV), (env.set i (some x))[j]? = some (some (.own xs)) → j ≠ i ∧ env[j]? = some (some (.own xs)) := fun j xs h => by
    by_cases hj : i = j
    · subst hj
      by_cases hi : i < env.length
      · rw [List.getElem?_set_self hi] at h
        cases h
        simp [PV.isOwn] at hn
      · rw [List.getElem?_eq_none (by simpa using hi)] at h
        cases h
    · rw [List.getElem?_set_ne hj] at h
      exact ⟨Ne.symm hj, h⟩
  refine ⟨s.f0, s.kp, s.ow, s.en.set r.toE i, fun j xs h => ?_, fun j k xs ys h1 h2 hne => ?_, s.sr⟩
  · obtain ⟨n, h'⟩ := old j xs h
    rw [List.getElem?_set_ne (Ne.symm n)]
    exact s.od j xs h'
  · obtain ⟨n1, h1'⟩ := old j xs h1
    obtain ⟨n2, h2'⟩ := old k ys h2
    rw [List.getElem?_set_ne (Ne.symm n1), List.getElem?_set_ne (Ne.symm n2)]
    exact s.ds j k xs ys h1' h2' hne
theorem StR.sets (l : List Nat) : ∀ {vs : List V} {xs : List PV} {σ : L2.St} {env : Env}, StR K R a H0 O σ H env S → Reps K (nO R O) a H vs xs → xs.length = l.length → ∀ {Q : L2.St → Hp → Prop},
    (∀ σ', StR K R a H0 O σ' H ((l.zip xs).foldl (fun e p => e.set p.1 (some p.2)) env) S → Q σ' H) → gNms l vs σ H Q := by
  induction l with
  | nil =>
    intro vs xs σ env s r hl Q q
    cases r with
    | nil => exact ⟨rfl, q σ s⟩
    | cons _ _ => simp at hl
  | cons i l ih =>
    intro vs xs σ env s r hl Q q
    cases r with
    | nil => simp at hl
    | cons r rs => exact ⟨_, _, rfl, ih (s.set r i) rs (by simpa using hl) q⟩
theorem StR.bind (s : StR K R a H0 O σ H env S) {t : Tg} {v : V} {x : PV} {env' : Env} {Q : L2.St → Hp → Prop} (r : RepE K (nO R O) a H v x) (hb : bindT t x env = some env')
    (q : ∀ σ', StR K R a H0 O σ' H env' S → Q σ' H) : gTg K t v σ H Q := by
  cases t with
  | nm i =>
    simp only [bindT] at hb
    split at hb
    · cases hb
    · rename_i ho
      simp only [Option.some.injEq] at hb
      subst hb
      exact q _ (s.set (r.rep (by simpa using ho)) i)
  | tp l =>
    simp only [bindT] at hb
    split at hb
    · rename_i xs
      split at hb
      · rename_i hl
        simp only [Option.some.injEq] at hb
        subst hb
        obtain ⟨p, vs, rfl, h1, n1, rs⟩ := r.tup
        exact .inl ⟨p, vs, rfl, SqT.of h1, by rw [rs.length]; exact hl, s.sets l rs hl q⟩
      · cases hb
    · rename_i xs
      split at hb
      · rename_i hl
        simp only [Option.some.injEq] at hb
        subst hb
        cases (show Rep K (nO R O) a H v (.lst xs) from r) with
        | lst h1 n1 q1 rs => exact .inr ⟨_, _, rfl, SqL.of h1, by rw [rs.length]; exact hl, s.sets l rs hl q⟩
      · cases hb
    · cases hb
/-- a new list that a name holds alone -/
theorem StR.newO (s : StR K R a H0 O σ H env S) (k : Keep a H H1) (r : SRel K (nO R O) a H1 S1) (hS : (S.isSome || S1.isNone) = true) {p : Addr} {vs : List V} {xs : List PV} (hp : H p = none) (hp1 : H1 p = some (.lst vs)) (rs : Reps K (nO (nO R O) (· = p)) a H1 vs xs) {i : Nat} (hi : i < env.length) :
    StR K R a H0 (fun b => O b ∨ b = p) (σ.set i (some (.ref p))) H1 (env.set i (some (.own xs))) S1 := by
  have hpa : p ≠ a := s.fr.ne hp
  have hO : ∀ b, O b → b ≠ p := fun b o e => by obtain ⟨⟨ws, h⟩, _⟩ := s.ow b o; rw [e, hp] at h; cases h
  have le : ∀ b, nO (nO R O) (· = p) b → nO R (fun b => O b ∨ b = p) b := fun b ⟨⟨h1, h2⟩, h3⟩ => ⟨h1, fun z => z.elim h2 h3⟩
  have hσ : i < σ.length := by rw [s.en.len]; exact hi
  have old : ∀ (j : Nat) (ys : List PV), j ≠ i → (env.set i (some (.own xs)))[j]? = some (some (.own ys)) → env[j]? = some (some (.own ys)) := fun j ys n h => by rwa [List.getElem?_set_ne (Ne.symm n)] at h
  have sp : ∀ j : Nat, j ≠ i → (σ.set i (some (V.ref p)))[j]? = σ[j]? := fun j n => List.getElem?_set_ne (Ne.symm n)
  have notp : ∀ (j : Nat) (ys : List PV), env[j]? = some (some (.own ys)) → σ[j]? ≠ some (some (.ref p)) := fun j ys h e => by
    obtain ⟨l, h1, h2⟩ := s.od j ys h
    rw [e] at h1
    cases h1
    exact hO _ h2 rfl
  have enD := (s.en.toD (D := p) hp k)
  refine ⟨s.f0, s.kp.trans k, fun b o => ?_, ?_, fun j ys h => ?_, fun j m ys zs h1 h2 hne => ?_, ?_⟩
  · rcases o with o | rfl
    · obtain ⟨⟨ws, e⟩, h2, h3⟩ := s.ow b o
      exact ⟨⟨ws, k.1 _ _ e h3⟩, h2, h3⟩
    · exact ⟨⟨vs, hp1⟩, s.kp.fresh hp, hpa⟩
  · have e1 : EnvE K (nO R (fun b => O b ∨ b = p)) a H1 σ env := ⟨enD.len, fun j x h => by
      obtain ⟨v, h1, h2⟩ := enD.get j x h
      refine ⟨v, h1, ?_⟩
      cases x with
      | own zs => obtain ⟨l, ws, q1, q2, q3, q4⟩ := h2; exact ⟨l, ws, q1, q2, q3, q4.mono le Keep.refl⟩
      | _ => exact Rep.mono le Keep.refl h2⟩
    exact e1.set (x := .own xs) (v := .ref p) ⟨p, vs, rfl, hp1, hpa, rs.mono le Keep.refl⟩ i
  · by_cases hj : j = i
    · subst hj
      exact ⟨p, List.getElem?_set_self hσ, .inr rfl⟩
    · obtain ⟨l, h1, h2⟩ := s.od j ys (old j ys hj h)
      exact ⟨l, by rw [sp j hj]; exact h1, .inl h2⟩
  · by_cases hj : j = i
    · subst hj
      have hm : m ≠ j := Ne.symm hne
      rw [sp m hm, List.getElem?_set_self hσ]
      exact fun e => notp m zs (old m zs hm h2) e.symm
    · by_cases hm : m = i
      · subst hm
        rw [sp j hj, List.getElem?_set_self hσ]
        exact notp j ys (old j ys hj h1)
      · rw [sp j hj, sp m hm]
        exact s.ds j m ys zs (old j ys hj h1) (old m zs hm h2) hne
  · cases S1 with
    | none => trivial
    | some t =>
      obtain ⟨scr, c, kk⟩ := t
      obtain ⟨q, h1, h2, h3, h4⟩ := r
      refine ⟨q, h1, h2, h3, h4.1, fun z => z.elim h4.2 fun e => ?_⟩
      subst e
      cases S with
      | none => simp at hS
      | some t0 =>
        obtain ⟨scr0, c0, k0⟩ := t0
        obtain ⟨q0, g1, g2, g3, g4⟩ := s.sr
        obtain ⟨r', e⟩ := k.2.2 _ _ g1
        rw [h1] at e
        have e2 : q = q0 := by
          injection e with e
          injection e with e
          injection e with e _
          injection e
        rw [e2, g2] at hp
        cases hp
theorem Ev.newO (s : StR K R a H0 O σ H env S) (k : Keep a H H1) {p : Addr} (hp : H p = none) : Ev a O H (fun b => O b ∨ b = p) H1 :=
  ⟨fun b o h n q => ⟨k.1 b o h n, fun z => z.elim q fun e => by rw [e, hp] at h; cases h⟩⟩

mutual
theorem Rep.updN {R' : Addr → Prop} {l : Addr} {vs vs' : List V} (hR : ∀ b, R' b → b ≠ l) (hD : H l = some (.lst vs)) : ∀ {v : V} {x : PV}, Rep K R' a H v x → Rep K R' a (L2.upd H l (.lst vs')) v x
  | _, _, .non => .non
  | _, _, .bl b => .bl b
  | _, _, .int i => .int i
  | _, _, .str s => .str s
  | _, _, .ty n => .ty n
  | _, _, .stm => .stm
  | _, _, .tup h n r => .tup (by rw [upd_ne (ne_of h hD (fun z => by cases z))]; exact h) n (Reps.updN hR hD r)
  | _, _, .lst h n q r => .lst (by rw [upd_ne (hR _ q)]; exact h) n q (Reps.updN hR hD r)
theorem Reps.updN {R' : Addr → Prop} {l : Addr} {vs vs' : List V} (hR : ∀ b, R' b → b ≠ l) (hD : H l = some (.lst vs)) : ∀ {vs0 : List V} {xs : List PV}, Reps K R' a H vs0 xs → Reps K R' a (L2.upd H l (.lst vs')) vs0 xs
  | _, _, .nil => .nil
  | _, _, .cons r rs => .cons (Rep.updN hR hD r) (Reps.updN hR hD rs)
end
/-- the owned list of a name: where it lies -/
theorem StR.own (s : StR K R a H0 O σ H env S) {i : Nat} {xs : List PV} (h : env[i]? = some (some (.own xs))) : ∃ l vs, σ[i]? = some (some (.ref l)) ∧ O l ∧ H l = some (.lst vs) ∧ l ≠ a ∧ Reps K (nO R O) a H vs xs := by
  obtain ⟨l, h1, h2⟩ := s.od i xs h
  obtain ⟨v, h3, l', vs, rfl, h4, h5, h6⟩ := s.en.get i _ h
  rw [h1] at h3
  cases h3
  exact ⟨l, vs, h1, h2, h4, h5, h6⟩
/-- it is changed -/
theorem StR.mut (s : StR K R a H0 O σ H env S) {i : Nat} {xs xs' : List PV} {l : Addr} {vs vs' : List V} (h : env[i]? = some (some (.own xs))) (hl : σ[i]? = some (some (.ref l))) (hO : O l) (hv : H l = some (.lst vs)) (rs : Reps K (nO R O) a H vs' xs') :
    StR K R a H0 O σ (L2.upd H l (.lst vs')) (env.set i (some (.own xs'))) S ∧ Ev a O H O (L2.upd H l (.lst vs')) := by
  obtain ⟨⟨_, _⟩, hl0, hla⟩ := s.ow l hO
  have hR : ∀ b, nO R O b → b ≠ l := fun b h e => h.2 (e ▸ hO)
  have hi : i < env.length := (List.getElem?_eq_some_iff.mp h).1
  have old : ∀ (j : Nat) (ys : List PV), j ≠ i → (env.set i (some (.own xs')))[j]? = some (some (.own ys)) → env[j]? = some (some (.own ys)) := fun j ys n h => by rwa [List.getElem?_set_ne (Ne.symm n)] at h
  have isown : ∀ (j : Nat) (ys : List PV), (env.set i (some (.own xs')))[j]? = some (some (.own ys)) → ∃ zs, env[j]? = some (some (.own zs)) := fun j ys g => by
    by_cases hj : j = i
    · subst hj; exact ⟨xs, h⟩
    · exact ⟨ys, old j ys hj g⟩
  refine ⟨⟨s.f0, Keep.updD hl0 hla s.kp, fun b o => ?_, ⟨by rw [List.length_set]; exact s.en.len, fun j x g => ?_⟩, fun j ys g => ?_, fun j m ys zs g1 g2 hne => ?_, ?_⟩, ⟨fun b o e n q => ⟨?_, q⟩⟩⟩
  · obtain ⟨⟨ws, e⟩, h2, h3⟩ := s.ow b o
    by_cases hb : b = l
    · subst hb; exact ⟨⟨vs', upd_same⟩, h2, h3⟩
    · exact ⟨⟨ws, by rw [upd_ne hb]; exact e⟩, h2, h3⟩
  · by_cases hj : j = i
    · subst hj
      rw [List.getElem?_set_self hi] at g
      cases g
      exact ⟨_, hl, l, vs', rfl, upd_same, hla, rs.updN hR hv⟩
    · rw [List.getElem?_set_ne (Ne.symm hj)] at g
      obtain ⟨v, g1, g2⟩ := s.en.get j x g
      refine ⟨v, g1, ?_⟩
      cases x with
      | own ys =>
        obtain ⟨l2, ws, rfl, e2, n2, r2⟩ := g2
        have hne : l2 ≠ l := fun e => by
          have := s.ds i j xs ys h g (Ne.symm hj)
          rw [hl, g1, e] at this
          exact this rfl
        exact ⟨l2, ws, rfl, by rw [upd_ne hne]; exact e2, n2, r2.updN hR hv⟩
      | _ => exact Rep.updN hR hv g2
  · obtain ⟨zs, g'⟩ := isown j ys g
    exact s.od j zs g'
  · obtain ⟨ys', g1'⟩ := isown j ys g1
    obtain ⟨zs', g2'⟩ := isown m zs g2
    exact s.ds j m ys' zs' g1' g2' hne
  · have r := s.sr
    cases S with
    | none => trivial
    | some t =>
      obtain ⟨scr, c, kk⟩ := t
      obtain ⟨q, h1, h2, h3, h4⟩ := r
      exact ⟨q, by rw [upd_ne (Ne.symm hla)]; exact h1, by rw [upd_ne (hR q h4)]; exact h2, h3, h4⟩
  · rw [upd_ne (fun (z : b = l) => q (by rw [z]; exact hO))]; exact e
/-- it is changed no more -/
theorem StR.frz (s : StR K R a H0 O σ H env S) {i : Nat} {xs : List PV} (h : env[i]? = some (some (.own xs))) : ∃ O', StR K R a H0 O' σ H (env.set i (some (.lst xs))) S ∧ ∀ b, O' b → O b := by
  obtain ⟨l, vs, hl, hO, hv, hla, rs⟩ := s.own h
  have hi : i < env.length := (List.getElem?_eq_some_iff.mp h).1
  have le : ∀ b, nO R O b → nO R (fun b => O b ∧ b ≠ l) b := fun b hb => ⟨hb.1, fun z => hb.2 z.1⟩
  have old : ∀ (j : Nat) (ys : List PV), (env.set i (some (.lst xs)))[j]? = some (some (.own ys)) → j ≠ i ∧ env[j]? = some (some (.own ys)) := fun j ys g => by
    by_cases hj : j = i
    · subst hj
      rw [List.getElem?_set_self hi] at g
      cases g
    · rw [List.getElem?_set_ne (Ne.symm hj)] at g
      exact ⟨hj, g⟩
  refine ⟨fun b => O b ∧ b ≠ l, ⟨s.f0, s.kp, fun b o => s.ow b o.1, ⟨by rw [List.length_set]; exact s.en.len, fun j x g => ?_⟩, fun j ys g => ?_, fun j m ys zs g1 g2 hne => ?_, s.sr.mono le⟩, fun b o => o.1⟩
  · by_cases hj : j = i
    · subst hj
      rw [List.getElem?_set_self hi] at g
      cases g
      exact ⟨_, hl, show Rep _ _ _ _ _ _ from .lst hv hla ⟨s.f0.fc l (s.ow l hO).2.1, fun z => z.2 rfl⟩ (rs.mono le Keep.refl)⟩
    · rw [List.getElem?_set_ne (Ne.symm hj)] at g
      obtain ⟨v, g1, g2⟩ := s.en.get j x g
      refine ⟨v, g1, ?_⟩
      cases x with
      | own ys => obtain ⟨l2, ws, q1, q2, q3, q4⟩ := g2; exact ⟨l2, ws, q1, q2, q3, q4.mono le Keep.refl⟩
      | _ => exact Rep.mono le Keep.refl g2
  · obtain ⟨n, g'⟩ := old j ys g
    obtain ⟨l2, g1, g2⟩ := s.od j ys g'
    refine ⟨l2, g1, g2, fun e => ?_⟩
    have := s.ds i j xs ys h g' (Ne.symm n)
    rw [hl, g1, e] at this
    exact this rfl
  · obtain ⟨_, g1'⟩ := old j ys g1
    obtain ⟨_, g2'⟩ := old m zs g2
    exact s.ds j m ys zs g1' g2' hne
end
end Ws

/-! Ws12: statements are worth what evS says. -/
namespace Ws
open PySem PySem.Spec PyProof.Rows L2

theorem _root_.L2.PS.imp {X : Cx} {st : Stmt} {t t' : TS} (h : PS X st t) (m : ∀ D σ H, t' D σ H → t D σ H) : PS X st t' := ⟨fun pins s σ H D I q => h.run pins s σ H D I (m D σ H q)⟩
theorem _root_.L2.PSs.imp {X : Cx} {st : List Stmt} {t t' : TS} (h : PSs X st t) (m : ∀ D σ H, t' D σ H → t D σ H) : PSs X st t' := ⟨fun pins s σ H D I q => h.run pins s σ H D I (m D σ H q)⟩

section
variable (T : Tbl) (K : PySem.W.Frag) (R : Addr → Prop) (a : Addr) (H0 : Hp)
/-- what is wanted behind -/
def Post (D : Ends) (O : Addr → Prop) (H : Hp) (fl : Fl) (S' : Strm) : Prop :=
  match fl with
  | .nx env' => ∀ O' σ' H', Ev a O H O' H' → StR K R a H0 O' σ' H' env' S' → D.nx σ' H'
  | .rt x => ∀ v H', Keep a H0 H' → SRel K R a H' S' → Rep K R a H' v x → D.rt v H'
def tS (n : Nat) (c : CS) : TS := fun D σ H => ∃ O env S fl S', StR K R a H0 O σ H env S ∧ evS T n c env S = some (fl, S') ∧ Post K R a H0 D O H fl S'
def tSs (n : Nat) (l : List CS) : TS := fun D σ H => ∃ O env S fl S', StR K R a H0 O σ H env S ∧ seqL (fun c env S => evS T n c env S) l env S = some (fl, S') ∧ Post K R a H0 D O H fl S'
end
section
variable {T : Tbl} {K : PySem.W.Frag} {R : Addr → Prop} {a : Addr} {H0 : Hp}
theorem Post.from {D : Ends} {O O1 : Addr → Prop} {H H1 : Hp} {fl : Fl} {S' : Strm} (p : Post K R a H0 D O H fl S') (e : Ev a O H O1 H1) : Post K R a H0 D O1 H1 fl S' := by
  cases fl with
  | nx env' => exact fun O' σ' H' e' s => p O' σ' H' (e.trans e') s
  | rt x => exact p
end

/-- where statements run -/
structure GoodS (T : Tbl) (bts N : List Str) (sc : Scope) (X : Cx) : Prop extends Good T bts N sc X where
  kind : sc.kind = .function
  fn : ∀ x, X.fn x = true
  pass : PassesOwn (model X.prog X.w) X.A X.env X.xe
theorem GoodS.sto {T : Tbl} {bts N : List Str} {sc : Scope} {X : Cx} (g : GoodS T bts N sc X) : Sto X N sc := by
  refine ⟨g.hN, by rw [g.hN]; exact g.nd, fun x h => ⟨g.toGood.loc h, .inl (g.fn x)⟩⟩

/-! ### name = e -/
/-- the store within a comprehension's own frame -/
def swC (sc scope : Scope) (t : Str) (p1 p2 : Pos) : Bool := sc.names.lookup t == some .local && (p1.line == p2.line) && !(scope.names.any fun (n, k) => n == t && (k == .local || k == .cell))
section
variable {X : Cx} {n i : Nat} {y : Str} {py pos : Pos}
theorem sw_plain {e : Expr} {tg : Option Expr} {l : Nat} {env : PySem.Env} (h : ∀ elt gs sc p, e ≠ .ListComp elt gs sc p) (h2 : ∀ elt gs sc p, e ≠ .SetComp elt gs sc p) (h3 : ∀ elt v gs sc p, e ≠ .DictComp elt v gs sc p) : swapsWith e tg l env = pure false := by
  cases e <;> first | rfl | exact absurd rfl (h _ _ _ _) | exact absurd rfl (h2 _ _ _ _) | exact absurd rfl (h3 _ _ _ _ _)
/-- no comprehension of another kind -/
def noComp : Expr → Bool
  | .ListComp _ _ _ _ => false
  | .SetComp _ _ _ _ => false
  | .DictComp _ _ _ _ _ => false
  | _ => true
theorem sw_no {e : Expr} {tg : Option Expr} {l : Nat} {env : PySem.Env} (h : noComp e = true) : swapsWith e tg l env = pure false := by
  cases e <;> first | rfl | (simp [noComp] at h)
theorem sw_comp {elt : Expr} {gs : List Comprehension} {scope : Scope} {p : Pos} {l : Nat} (hk : X.env.scope.kind = .function) : swapsWith (.ListComp elt gs scope p) (some (.Name y py)) l X.env = pure (swC X.env.scope scope y py p) := by
  have hb : X.env.blockKind = .function := by unfold Env.blockKind; rw [hk]; rfl
  unfold swapsWith swC
  simp only [hb, Expr.pos]
  rfl
/-- name = e, by e's own reading -/
theorem ps_setPlain {e : Expr} {te : TE} {bts N : List Str} {sc : Scope} {T : Tbl} (g : GoodS T bts N sc X) (hi : (N[i]? == some y) = true) (hl : loc sc y = true) (hs : ∀ l, swapsWith e (some (.Name y py)) l X.env = pure false) (he : PE X e te) : PS X (.Assign [.Name y py] e pos) (tAsg te (gName i)) :=
  ps_set (by rw [g.hN]; exact g.nd) (g.ix hi) (g.toGood.loc hl) he (hs _) (.inl (g.fn _))
end
section
variable {T : Tbl} {X : Cx} {n : Nat}
theorem fin_new {K : PySem.W.Frag} {R : Addr → Prop} {a : Addr} {H H1 : Hp} {S : Strm} {Q : VK} {vs : List V} {xs : List PV} (f : Fresh R a H1) (k : Keep a H H1) (s : SRel K R a H1 S) (r : Reps K R a H1 vs xs)
    (q : ∀ p vs H', Keep a H H' → SRel K R a H' S → H p = none → H' p = some (.lst vs) → Reps K (but R p) a H' vs xs → Q (.ref p) H') : ∀ p, H1 p = none → Q (.ref p) (L2.upd H1 p (.lst vs)) := fun p hp =>
  q p vs _ (k.trans (Keep.upd hp)) (s.upd hp) (k.fresh hp) upd_same (r.toD hp (Keep.upd hp))
theorem pf_lst {es : List Expr} {pos} {l : List CE} (h : PA X es (tVs T X.K n l)) : PE X (.List es pos) (tF T X.K (n + 1) (.lst l)) := by
  refine (pe_lst h).imp fun σ H Q hq => ?_
  obtain ⟨R, a, env, S, y, S', A, e1, q⟩ := hq
  simp only [evE, Option.bind_eq_some_iff] at e1
  obtain ⟨⟨xs, S1⟩, h1, h2⟩ := e1
  split at h2
  · rename_i hl
    rw [Bool.and_eq_true, decide_eq_true_eq] at hl
    simp only [Option.some.injEq, Prod.mk.injEq, PV.lst.injEq] at h2
    obtain ⟨rfl, rfl⟩ := h2
    refine ⟨R, a, env, S, xs, S1, A, h1, fun vs H' k s r => ⟨LIM_le (by rw [r.length]; exact hl.2), ?_⟩⟩
    exact fin_new (A.fr.keep k) k s (r.reps hl.1) q
  · cases h2
theorem catL_lst {x y : Option (List PV)} {xs : List PV} (h : catL x y = some (.lst xs)) : ∃ l m, x = some l ∧ y = some m ∧ l.length + m.length ≤ LIM ∧ xs = l ++ m := by
  unfold catL at h
  split at h
  case h_2 => cases h
  rename_i a b
  split at h
  case isFalse => cases h
  rename_i hle
  simp only [Option.some.injEq, PV.lst.injEq] at h
  exact ⟨a, b, rfl, rfl, hle, h.symm⟩
theorem repL_lst {x : Option (List PV)} {k : Int} {xs : List PV} (h : repL x k = some (.lst xs)) : ∃ l, x = some l ∧ -(2 ^ 62) ≤ k ∧ k < 2 ^ 62 ∧ l.length * k.toNat ≤ LIM ∧ xs = (List.replicate k.toNat l).flatten := by
  unfold repL at h
  split at h
  case h_2 => cases h
  split at h
  case isFalse => cases h
  rename_i hle
  simp only [Bool.and_eq_true, decide_eq_true_eq] at hle
  simp only [Option.some.injEq, PV.lst.injEq] at h
  exact ⟨_, rfl, hle.1.1, hle.1.2, hle.2, h.symm⟩
theorem bin_lst {o : BOp} {x y : PV} {xs : List PV} (h : binV o x y = some (.lst xs)) : (o = .add ∧ catL x.lst? y.lst? = some (.lst xs)) ∨ (o = .mul ∧ ∃ k, y = .int k ∧ repL x.lst? k = some (.lst xs)) := by
  cases o with
  | add =>
    refine .inl ⟨rfl, ?_⟩
    cases x <;> first
      | exact h
      | (cases y <;> first
          | exact h
          | (simp [binV] at h; done)
          | (simp only [binV] at h; split at h <;> simp at h; done))
  | mul =>
    right
    cases y with
    | int k =>
      refine ⟨rfl, k, rfl, ?_⟩
      cases x <;> first
        | exact h
        | (simp only [binV] at h; split at h <;> simp at h; done)
    | _ => cases x <;> simp [binV] at h
  | sub => cases x <;> cases y <;> simp [binV] at h
  | mod => cases x <;> cases y <;> simp [binV] at h
  | fdiv => cases x <;> cases y <;> simp [binV] at h
  | pow => cases x <;> cases y <;> simp [binV] at h
theorem pf_bin {x y : Expr} {a b : CE} {pos : Pos} {o : BOp} (ha : PE X x (tV T X.K n a)) (hb : PE X y (tV T X.K n b)) : PE X (.BinOp x (opOf o) y pos) (tF T X.K (n + 1) (.bin o a b)) := by
  have key : ∃ r, OpR X (binaryOp (opOf o)) r ∧ ∀ {R : Addr → Prop} {ad : Addr} {H H1 : Hp} {S : Strm} {v w : V} {p q : PV} {xs : List PV} {Q : VK}, Fresh R ad H1 → Keep ad H H1 → SRel X.K R ad H1 S → RepE X.K R ad H1 v p → RepE X.K R ad H1 w q → binV o p q = some (.lst xs) →
      (∀ p vs H', Keep ad H H' → SRel X.K R ad H' S → H p = none → H' p = some (.lst vs) → Reps X.K (but R p) ad H' vs xs → Q (.ref p) H') → r v w H1 Q := by
    cases o with
    | add =>
      refine ⟨_, op_cat, fun f k s r1 r2 e q => ?_⟩
      rcases bin_lst e with ⟨_, h⟩ | ⟨h, _⟩
      · obtain ⟨l, m, h1, h2, h3, rfl⟩ := catL_lst h
        obtain ⟨p1, vs, rfl, g1, g2⟩ := r1.lst h1
        obtain ⟨p2, ws, rfl, g1', g2'⟩ := r2.lst h2
        exact ⟨p1, p2, vs, ws, rfl, rfl, g1, g1', LIM_le (by rw [g2.length, g2'.length]; exact h3), fin_new f k s (g2.append g2') q⟩
      · cases h
    | mul =>
      refine ⟨_, op_rep, fun f k s r1 r2 e q => ?_⟩
      rcases bin_lst e with ⟨h, _⟩ | ⟨_, m, rfl, h⟩
      · cases h
      · obtain ⟨l, h1, h2, h3, h4, rfl⟩ := repL_lst h
        obtain ⟨p1, vs, rfl, g1, g2⟩ := r1.lst h1
        exact ⟨p1, m, vs, rfl, r2.int, g1, by omega, by omega, LIM_le (by rw [g2.length]; exact h4), fin_new f k s (g2.rep _) q⟩
    | sub => exact ⟨_, op_sub, fun _ _ _ _ _ e _ => by rcases bin_lst e with ⟨h, _⟩ | ⟨h, _⟩ <;> cases h⟩
    | mod => exact ⟨_, op_mod, fun _ _ _ _ _ e _ => by rcases bin_lst e with ⟨h, _⟩ | ⟨h, _⟩ <;> cases h⟩
    | fdiv => exact ⟨_, op_fdiv, fun _ _ _ _ _ e _ => by rcases bin_lst e with ⟨h, _⟩ | ⟨h, _⟩ <;> cases h⟩
    | pow => exact ⟨_, op_pow, fun _ _ _ _ _ e _ => by rcases bin_lst e with ⟨h, _⟩ | ⟨h, _⟩ <;> cases h⟩
  obtain ⟨r, h1, h3⟩ := key
  refine (pe_op h1 ha hb).imp fun σ H Q hq => ?_
  obtain ⟨R, ad, env, S, w, S', A, e1, q⟩ := hq
  simp only [evE, Option.bind_eq_some_iff, Option.map_eq_some_iff] at e1
  obtain ⟨⟨v1, S1⟩, e1, ⟨v2, S2⟩, e2, v3, e3, e4⟩ := e1
  simp only [Prod.mk.injEq] at e4
  obtain ⟨rfl, rfl⟩ := e4
  exact ⟨R, ad, env, S, v1, S1, A, e1, fun u H1 k1 s1 r1 => ⟨R, ad, env, S1, v2, S2, A.keep k1 s1, e2, fun u2 H2 k2 s2 r2 =>
    h3 ((A.fr.keep k1).keep k2) (k1.trans k2) s2 (r1.keep k2) r2 e3 q⟩⟩
theorem pf_rg1 {y : Expr} {b : CE} {p1 p2 p3 p4 : Pos} (hc : X.calm = true) (hg : Gl X "list") (hm : X.mg "list" = none) (hg2 : Gl X "range") (hm2 : X.mg "range" = none) (hb : PE X y (tV T X.K n b)) (hs : notStar y = true) :
    PE X (.Call (.Name "list" p1) [.Call (.Name "range" p2) [y] [] p3] [] p4) (tF T X.K (n + 1) (.rg1 false b)) := by
  have rg := prg_1 (p := p2) (pos := p3) hg2 hm2 hb (star1 hs)
  refine (pe_listRg hc hg hm rg).imp fun σ H Q hq => ?_
  obtain ⟨R, ad, env, S, xs, S', A, e1, q⟩ := hq
  simp only [evE, Option.bind_eq_some_iff] at e1
  obtain ⟨⟨v1, S1⟩, e1, e2⟩ := e1
  unfold rgV1 at e2
  split at e2
  case h_2 => cases e2
  rename_i j hj
  have hj : v1 = .int j := hj
  subst hj
  simp only [Option.map_eq_some_iff] at e2
  obtain ⟨w, e2, e3⟩ := e2
  simp only [Prod.mk.injEq] at e3
  obtain ⟨rfl, rfl⟩ := e3
  obtain ⟨ok, e4⟩ := rgS_of e2
  have e4 : xs = rangeV 0 j := by
    rw [if_neg Bool.false_ne_true] at e4
    exact PV.lst.inj e4
  subst e4
  exact ⟨R, ad, env, S, _, S1, A, e1, fun u H1 k1 s1 r1 => ⟨j, r1.int, ok, fin_new (A.fr.keep k1) k1 s1 (reps_rg 0 j) q⟩⟩
theorem pf_list {y : Expr} {l : List CE} {p pos : Pos} {ck : Expr → CE → Bool} (hg : Gl X "list") (hm : X.mg "list" = none) (ha : PA X [y] (tVs T X.K n l)) (ck1 : notStar y = true) :
    PE X (.Call (.Name "list" p) [y] [] pos) (tF T X.K (n + 1) (.bi .list l)) := by
  refine (pe_callTy call_list_of hg hm (biBoot .list) ha (by decide) (by decide) (star1 ck1) rfl).imp fun σ H Q hq => ?_
  obtain ⟨R, ad, env, S, w, S', A, e1, q⟩ := hq
  simp only [evE, Option.bind_eq_some_iff, Option.map_eq_some_iff] at e1
  obtain ⟨⟨xs, S1⟩, e1, v, e2, e3⟩ := e1
  simp only [Prod.mk.injEq] at e3
  obtain ⟨rfl, rfl⟩ := e3
  refine ⟨R, ad, env, S, xs, S1, A, e1, fun vs H1 k1 s1 r1 => ?_⟩
  cases r1 with
  | nil => simp [biV] at e2
  | cons r rs =>
    cases rs with
    | cons _ _ => simp [biV] at e2
    | nil =>
      simp only [biV, Option.map_eq_some_iff, PV.lst.injEq] at e2
      obtain ⟨l', h1, rfl⟩ := e2
      obtain ⟨p, ws, rfl, hp, rr⟩ := r.seq h1
      exact ⟨p, ws, rfl, hp.elim (fun z => .inl (SqL.of z)) (fun z => .inr (SqT.of z)), fin_new (A.fr.keep k1) k1 s1 rr q⟩
end
end Ws

/-! Ws13: each statement. -/
namespace Ws
open PySem PySem.Spec PyProof.Rows L2

/-- no comprehension of two clauses -/
def notC2 : CE → Bool
  | .comp2 _ _ _ _ _ _ _ _ => false
  | _ => true
theorem chk_comp {bts N : List Str} {m : Nat} {sc : Scope} {elt : Expr} {gs : List Comprehension} {scope : Scope} {p : Pos} {c : CE} (hc : chkE bts N (m + 1) sc (.ListComp elt gs scope p) c = true) (hn : notC2 c = true) :
    ∃ tg it ifs elt' tg' it' ifs' own, gs = [⟨tg, it, ifs, 0⟩] ∧ c = .comp elt' tg' it' ifs' own ∧ chkI bts (chkE bts N m sc) sc tg it it' = true ∧ notSet it = true ∧ blkC N sc scope own = true ∧ chkTg N scope tg tg' = true ∧ tgIn tg' (own.map (·.2)) = true ∧
      ((match ifs, ifs' with
        | [], none => true
        | [d], some d' => chkE bts N m (relS scope sc) d d'
        | _, _ => false) = true) ∧ chkE bts N m (relS scope sc) elt elt' = true := by
  unfold chkE at hc
  split at hc
  all_goals first
    | (rename_i heq; cases heq; done)
    | (rename_i heq _; cases heq; done)
    | (cases hc; done)
    | (cases hn; done)
    | skip
  rename_i he
  simp only [Bool.and_eq_true] at hc
  cases he
  obtain ⟨⟨⟨⟨⟨⟨h1, h2⟩, h3⟩, h4⟩, h5⟩, h6⟩, h7⟩ := hc
  exact ⟨_, _, _, _, _, _, _, _, rfl, rfl, h1, h2, h3, h4, h5, h6, h7⟩
theorem chk_noSet {bts N : List Str} {m : Nat} {sc : Scope} {elt : Expr} {gs : List Comprehension} {scope : Scope} {p : Pos} {c : CE} : chkE bts N (m + 1) sc (.SetComp elt gs scope p) c = false := by
  unfold chkE
  split <;> first | rfl | (rename_i heq; cases heq; done) | (rename_i heq _; cases heq; done)
theorem chk_noDict {bts N : List Str} {m : Nat} {sc : Scope} {elt v : Expr} {gs : List Comprehension} {scope : Scope} {p : Pos} {c : CE} : chkE bts N (m + 1) sc (.DictComp elt v gs scope p) c = false := by
  unfold chkE
  split <;> first | rfl | (rename_i heq; cases heq; done) | (rename_i heq _; cases heq; done)
section
variable {T : Tbl} {bts N : List Str} {sc : Scope} {X : Cx} {n : Nat} {R : Addr → Prop} {a : Addr} {H0 : Hp}
/-- name = e: by e's reading, whatever e is -/
theorem ps_setE {te : TE} {m i : Nat} {y : Str} {py pos : Pos} {e : Expr} {c : CE} (g : GoodS T bts N sc X) (hi : (N[i]? == some y) = true) (hl : loc sc y = true) (hc : chkE bts N (m + 1) sc e c = true) (hn2 : notC2 c = true)
    (he : PE X e te) (hcomp : ∀ elt tg it ifs scope p elt' tg' it' ifs' own, e = .ListComp elt [⟨tg, it, ifs, 0⟩] scope p → c = .comp elt' tg' it' ifs' own → ∀ σ H Q, te σ H Q → tF T X.K (n + 1) c σ H Q) :
    PS X (.Assign [.Name y py] e pos) (tAsg te (gName i)) := by
  have gen : (∀ l, swapsWith e (some (.Name y py)) l X.env = pure false) → PS X (.Assign [.Name y py] e pos) (tAsg te (gName i)) := fun hs => ps_setPlain g hi hl hs he
  cases e with
  | ListComp elt gs scope p =>
    obtain ⟨tg, it, ifs, elt', tg', it', ifs', own, rfl, rfl, h1, h2, h3, h4, h5, h6, h7⟩ := chk_comp hc hn2
    cases hsw : swC X.env.scope scope y py p with
    | false => exact gen fun l => by rw [sw_comp (by rw [g.hs]; exact g.kind), hsw]
    | true =>
      have hy : X.env.scope.names.lookup y = some .local := by
        unfold swC at hsw
        simp only [Bool.and_eq_true, beq_iff_eq] at hsw
        exact hsw.1.1
      have ihP : ∀ e c, chkE bts N m sc e c = true → PE X e (tV T X.K n c) := fun e c h => (ev_ok m n sc X e c g.toGood h).1
      refine (ps_setLc (i := i) (wi := tI T X.K true n it') g.calm (by rw [g.hN]; exact g.nd) (g.ix hi) hy (by rw [sw_comp (by rw [g.hs]; exact g.kind), hsw]) (chkI_ev g.toGood ihP h1) (blkOk_by (by rw [g.hN, g.hs]; exact h3)) (g := gTg X.K tg') (fun s H C cl fp => pg_ev (X := X.blk s H scope (compEnvC scope cl C X.env) fp) g.calm (g.toGood.sto s H scope C cl fp) h4) (tt := tIf T X.K n ifs') (te := tV T X.K n elt') (fun s H C cl fp => ?_) (fun s H C cl fp => (ev_ok m n _ _ _ _ (g.toGood.blk s H scope C cl fp) h7).1) (fold_id h2)).imp fun D σ H hq => ?_
      · cases ifs with
        | nil =>
          cases ifs' with
          | none => exact pts_nil
          | some d => cases h6
        | cons d r =>
          cases r with
          | cons _ _ => cases ifs' <;> cases h6
          | nil =>
            cases ifs' with
            | none => cases h6
            | some d' => exact pts_one (ev_ok m n _ _ _ _ (g.toGood.blk s H scope C cl fp) h6).2
      · exact comp_ok h5 (hcomp _ _ _ _ _ _ _ _ _ _ _ rfl rfl σ H _ hq)
  | SetComp elt gs scope p => rw [chk_noSet] at hc; cases hc
  | DictComp elt v gs scope p => rw [chk_noDict] at hc; cases hc
  | _ => exact gen fun l => sw_no rfl

def noBool : Expr → Bool
  | .BoolOp _ _ _ => false
  | _ => true
def notTupE : Expr → Bool
  | .Tuple _ _ _ => false
  | _ => true
/-- a new list -/
theorem pf_ev {m : Nat} {e : Expr} {c : CE} (g : GoodS T bts N sc X) (hc : chkE bts N (m + 1) sc e c = true) (hf : isFresh c = true) (hb : noBool e = true) : PE X e (tF T X.K (n + 1) c) := by
  have ihP : ∀ e c, chkE bts N m sc e c = true → PE X e (tV T X.K n c) := fun e c h => (ev_ok m n sc X e c g.toGood h).1
  cases e with
  | BoolOp _ _ _ => simp [noBool] at hb
  | ListComp elt gs scope p =>
    obtain ⟨tg, it, ifs, elt', tg', it', ifs', own, rfl, rfl, h1, h2, h3, h4, h5, h6, h7⟩ := chk_comp hc (by cases c <;> first | rfl | (cases hf))
    refine (pe_lc g.calm (by rw [g.hN]; exact g.nd) (chkI_ev g.toGood ihP h1) (blkOk_by (by rw [g.hN, g.hs]; exact h3)) (g := gTg X.K tg') (fun s H C cl fp => pg_ev (X := X.blk s H scope (compEnvC scope cl C X.env) fp) g.calm (g.toGood.sto s H scope C cl fp) h4) (tt := tIf T X.K n ifs') (te := tV T X.K n elt') (fun s H C cl fp => ?_) (fun s H C cl fp => (ev_ok m n _ _ _ _ (g.toGood.blk s H scope C cl fp) h7).1) (fold_id h2)).imp fun σ H Q hq => comp_ok h5 hq
    cases ifs with
    | nil =>
      cases ifs' with
      | none => exact pts_nil
      | some d => cases h6
    | cons d r =>
      cases r with
      | cons _ _ => cases ifs' <;> cases h6
      | nil =>
        cases ifs' with
        | none => cases h6
        | some d' => exact pts_one (ev_ok m n _ _ _ _ (g.toGood.blk s H scope C cl fp) h6).2
  | List es p =>
    unfold chkE at hc
    split at hc
    all_goals first
      | (rename_i heq; cases heq; done)
      | (rename_i heq _; cases heq; done)
      | (cases hc; done)
      | skip
    rename_i he
    cases he
    exact pf_lst (pa_ev ihP _ _ hc)
  | BinOp x o y p =>
    unfold chkE at hc
    split at hc
    all_goals first
      | (rename_i heq; cases heq; done)
      | (rename_i heq _; cases heq; done)
      | (cases hc; done)
      | skip
    rename_i he
    cases he
    simp only [Bool.and_eq_true, beq_iff_eq] at hc
    obtain ⟨⟨h1, h2⟩, h3⟩ := hc
    subst h1
    exact pf_bin (ihP _ _ h2) (ihP _ _ h3)
  | Call f es ks p =>
    unfold chkE at hc
    split at hc
    all_goals first
      | (rename_i heq; cases heq; done)
      | (rename_i heq _; cases heq; done)
      | (cases hc; done)
      | (cases hf; done)
      | skip
    rename_i he
    cases he
    simp only [Bool.and_eq_true, beq_iff_eq] at hc
    obtain ⟨⟨⟨h1, h2⟩, h3⟩, h4⟩ := hc
    subst h1
    rename_i p2 y es b l
    cases b <;> first | (cases hf; done) | skip
    cases es with
    | nil => exact pf_list (ck := chkE bts N m sc) (g.toGood.gl h2) (g.toGood.bt h3) (pa_ev ihP _ _ h4) (chkL_ne h4)
    | cons z zs =>
      refine ⟨fun pins s σ H Q I hq => ?_⟩
      obtain ⟨R, ad, env, S, w, S', A, e1, q⟩ := hq
      exfalso
      cases l with
      | nil => simp [chkL] at h4
      | cons a l =>
        cases l with
        | nil => simp [chkL] at h4
        | cons a2 l =>
          simp only [evE, evL, Option.bind_eq_some_iff, Option.map_eq_some_iff] at e1
          obtain ⟨⟨xs, S1⟩, ⟨⟨v1, S2⟩, e1, ⟨ys, S3⟩, ⟨⟨v2, S4⟩, e2, ⟨zs, S5⟩, e3, e4⟩, e5⟩, v, e6, e7⟩ := e1
          simp only [Prod.mk.injEq] at e4 e5
          obtain ⟨rfl, rfl⟩ := e4
          obtain ⟨rfl, rfl⟩ := e5
          simp [biV] at e6
    rename_i xf q1 yf q2 bb q3 q4 tt bb' he
    cases he
    cases tt with
    | true => cases hf
    | false =>
      simp only [Bool.and_eq_true, beq_iff_eq, if_neg Bool.false_ne_true] at hc
      obtain ⟨⟨⟨⟨⟨⟨⟨h1, h2⟩, h3⟩, h4⟩, h5⟩, h6⟩, h7⟩, h8⟩ := hc
      subst h1 h4
      exact pf_rg1 g.calm (g.toGood.gl h2) (g.toGood.bt h3 (by decide)) (g.toGood.gl h5) (g.toGood.bt h6 (by decide)) (ihP _ _ h8) h7
  | _ =>
    unfold chkE at hc
    split at hc
    all_goals first
      | (rename_i heq; cases heq; done)
      | (rename_i heq _; cases heq; done)
      | (cases hc; done)
      | (cases hf; done)
end
section
variable {T : Tbl} {bts N : List Str} {sc : Scope} {X : Cx} {n : Nat} {R : Addr → Prop} {a : Addr} {H0 : Hp} {e : Expr} {c : CE} {pos : Pos}
/-- targets = e -/
theorem asg_imp {t : Tg} {D : Ends} {σ : L2.St} {H : Hp} (h : tS T X.K R a H0 (n + 1) (.asg t c) D σ H) : tAsg (tV T X.K FU c) (gTg X.K t) D σ H := by
  obtain ⟨O, env, S, fl, S', st, ev, po⟩ := h
  simp only [evS, Option.bind_eq_some_iff, Option.map_eq_some_iff] at ev
  obtain ⟨⟨x, S1⟩, e1, env', e2, e3⟩ := ev
  simp only [Prod.mk.injEq] at e3
  obtain ⟨rfl, rfl⟩ := e3
  exact ⟨_, a, env, S, x, S1, st.at, e1, fun v H' k s r => (st.step k s).bind r e2 fun σ' st' => po O σ' H' (Ev.of k) st'⟩
theorem ps_asgN {i m : Nat} {y : Str} {py : Pos} (g : GoodS T bts N sc X) (hi : (N[i]? == some y) = true) (hl : loc sc y = true) (hc : chkE bts N (m + 1) sc e c = true) (hn2 : notC2 c = true) : PS X (.Assign [.Name y py] e pos) (tS T X.K R a H0 (n + 1) (.asg (.nm i) c)) := by
  refine (ps_setE (te := tV T X.K FU c) (n := 59) (i := i) g hi hl hc hn2 (ev_ok (m + 1) FU sc X e c g.toGood hc).1 fun elt tg it ifs scope p elt' tg' it' ifs' own he hce σ H Q hq => ?_).imp fun D σ H h => asg_imp h
  subst hce
  exact tV_tF hq
theorem ps_asgT {m : Nat} {es : List Expr} {k : Nat} {tp : Pos} {l : List Nat} (g : GoodS T bts N sc X) (ht : chkTg N sc (.Tuple es k tp) (.tp l) = true) (hc : chkE bts N m sc e c = true) (h2 : notTupE e = true) : PS X (.Assign [.Tuple es k tp] e pos) (tS T X.K R a H0 (n + 1) (.asg (.tp l) c)) := by
  refine (ps_asg (ev_ok m FU sc X e c g.toGood hc).1 (pg_ev g.calm g.sto ht) (hs := by show swapsWith e (some (.Tuple es k tp)) pos.line X.env = pure false; cases e <;> rfl) (hw := ?_) rfl).imp fun D σ H h => asg_imp h
  cases e <;> first | rfl | (simp [notTupE] at h2)
end
end Ws

/-! Ws14: lists that are changed, ifs, loops, returns, blocks; a def by its body. -/
namespace Ws
open PySem PySem.Spec PyProof.Rows L2

section
variable {T : Tbl} {bts N : List Str} {sc : Scope} {X : Cx} {n : Nat} {R : Addr → Prop} {a : Addr} {H0 : Hp} {e k : Expr} {c d : CE} {pos : Pos}
theorem own_at {env : Env} {i : Nat} {l : List PV} (h : ownAt env i = some l) : env[i]? = some (some (.own l)) := by
  unfold ownAt at h
  split at h
  · rename_i x hx
    simp only [Option.some.injEq] at h
    subst h
    exact hx
  · cases h
/-- name = a new list that it holds alone -/
theorem ps_asgO {i m : Nat} {y : Str} {py : Pos} (g : GoodS T bts N sc X) (hi : (N[i]? == some y) = true) (hl : loc sc y = true) (hc : chkE bts N (m + 1) sc e c = true) (hb : noBool e = true) : PS X (.Assign [.Name y py] e pos) (tS T X.K R a H0 (n + 1) (.asgO i c)) := by
  by_cases hf : isFresh c = true
  · refine (ps_setE (te := tF T X.K FU c) (n := 59) (i := i) g hi hl hc (by cases c <;> first | rfl | (cases hf)) (pf_ev (n := 59) g hc hf hb) fun elt tg it ifs scope p elt' tg' it' ifs' own he hce σ H Q hq => hq).imp fun D σ H h => ?_
    obtain ⟨O, env, S, fl, S', st, ev, po⟩ := h
    simp only [evS] at ev
    rw [if_pos hf] at ev
    simp only [Option.bind_eq_some_iff] at ev
    obtain ⟨⟨x, S1⟩, e1, e2⟩ := ev
    split at e2
    case h_2 => cases e2
    rename_i xs hx
    have hx : x = .lst xs := hx
    subst hx
    split at e2
    case isFalse => cases e2
    rename_i hlt
    rw [Bool.and_eq_true, decide_eq_true_eq] at hlt
    simp only [Option.some.injEq, Prod.mk.injEq] at e2
    obtain ⟨rfl, rfl⟩ := e2
    exact ⟨_, a, env, S, xs, S1, st.at, e1, fun p vs H' k s hp hp1 rs => po _ _ _ (Ev.newO st k hp) (st.newO k s hlt.2 hp hp1 rs hlt.1)⟩
  · refine ⟨fun pins s σ H D I h => ?_⟩
    obtain ⟨O, env, S, fl, S', st, ev, po⟩ := h
    simp only [evS] at ev
    rw [if_neg hf] at ev
    cases ev
/-- name.append(e) -/
theorem ps_appV {i m : Nat} {y : Str} {py apos p : Pos} (g : GoodS T bts N sc X) (hi : (N[i]? == some y) = true) (hv : vis sc y = true) (hd : okName y = true) (hc : chkE bts N m sc e c = true) (hs : notStar e = true) (hline : (apos.endLine == p.line) = true) :
    PS X (.Expr (.Call (.Attribute (.Name y py) "append" apos) [e] [] p) pos) (tS T X.K R a H0 (n + 1) (.app i c)) := by
  obtain ⟨d1, d2⟩ := okN hd
  have he := (ev_ok m FU sc X e c g.toGood hc).1
  refine (ps_expr (pe_bm PySem.F.plainAttrs_list PySem.F.slot_list_append PySem.F.type_list_append mt_append (pe_var (g.ix hi) (g.toGood.vis hv) d1 d2) (pa_cons he pa_nil (star1 hs)) rfl (by rw [star1 hs]; rfl) hline (star1 hs) rfl)).imp fun D σ H h => ?_
  obtain ⟨O, env, S, fl, S', st, ev, po⟩ := h
  simp only [evS, Option.bind_eq_some_iff] at ev
  obtain ⟨⟨x, S1⟩, e1, l, e2, e3⟩ := ev
  split at e3
  · cases e3
  rename_i hn
  simp only [Option.some.injEq, Prod.mk.injEq] at e3
  obtain ⟨rfl, rfl⟩ := e3
  simp only [Bool.or_eq_true, Bool.not_eq_true', decide_eq_false_iff_not, not_or, Bool.not_eq_true, Classical.not_not] at hn
  have ho := own_at e2
  obtain ⟨la, vs, h1, h2, h3, h4, h5⟩ := st.own ho
  refine ⟨_, h1, .inl ⟨rfl, vs, SqL.of h3⟩, _, a, env, S, x, S1, st.at, e1, fun v H' k s r => ?_⟩
  have st' := st.step k s
  have h3' := k.1 _ _ h3 h4
  obtain ⟨m1, m2⟩ := st'.mut (xs' := l ++ [x]) (vs' := vs ++ [v]) ho h1 h2 h3' ((h5.keep k).append (.cons (r.rep hn.1) .nil))
  refine ⟨la, vs, v, rfl, rfl, h3', ?_, po _ _ _ ((Ev.of k).trans m2) m1⟩
  have := h5.length
  have : sizeLine = 16777216 := sizeLine_eq
  have : l.length < 1000000 := hn.2
  omega
/-- name[k] = e -/
theorem ps_setIV {i m : Nat} {y : Str} {py p : Pos} (g : GoodS T bts N sc X) (hi : (N[i]? == some y) = true) (hv : vis sc y = true) (hd : okName y = true) (hc : chkE bts N m sc e c = true) (hk : chkE bts N m sc k d = true) (hn : noComp e = true) (hns : notSlice k = true) :
    PS X (.Assign [.Subscript (.Name y py) k p] e pos) (tS T X.K R a H0 (n + 1) (.setI i d c)) := by
  obtain ⟨d1, d2⟩ := okN hd
  have he := (ev_ok m FU sc X e c g.toGood hc).1
  have hk := (ev_ok m FU sc X k d g.toGood hk).1
  refine (ps_asg he (pg_sub (pe_var (g.ix hi) (g.toGood.vis hv) d1 d2) hk set_list (by intro v; cases k <;> first | rfl | (simp [notSlice] at hns))) (hs := by show swapsWith e (some (.Subscript (.Name y py) k p)) pos.line X.env = pure false; exact sw_no hn) (hw := rfl) rfl).imp fun D σ H h => ?_
  obtain ⟨O, env, S, fl, S', st, ev, po⟩ := h
  simp only [evS, Option.bind_eq_some_iff] at ev
  obtain ⟨⟨x, S1⟩, e1, ⟨z, S2⟩, e2, l, e3, e4⟩ := ev
  split at e4
  case h_2 => cases e4
  rename_i j hj
  have hj : z = .int j := hj
  subst hj
  split at e4
  · cases e4
  rename_i hx
  simp only [Option.map_eq_some_iff, Prod.mk.injEq] at e4
  obtain ⟨q, hq, rfl, rfl⟩ := e4
  have ho := own_at e3
  refine ⟨_, a, env, S, x, S1, st.at, e1, fun v H' k1 s1 r1 => ?_⟩
  have st1 := st.step k1 s1
  obtain ⟨la, vs, h1, h2, h3, h4, h5⟩ := st1.own ho
  refine ⟨_, h1, _, a, env, S1, _, S2, st1.at, e2, fun w H2 k2 s2 r2 => ?_⟩
  have st2 := st1.step k2 s2
  have h3' := k2.1 _ _ h3 h4
  obtain ⟨m1, m2⟩ := st2.mut (xs' := l.set q x) (vs' := vs.set q v) ho h1 h2 h3' (((h5.keep k2)).set q ((r1.keep k2).rep (by simpa using hx)))
  exact ⟨la, vs, j, q, rfl, r2.int, h3', by rw [h5.length]; exact hq, po _ _ _ (((Ev.of k1).trans (Ev.of k2)).trans m2) m1⟩
/-- the stream's cell or place -/
theorem ps_ssetV {i m : Nat} {y : Str} {py p p2 : Pos} {j : Int} {kk : Nat} (g : GoodS T bts N sc X) (hi : (N[i]? == some y) = true) (hv : vis sc y = true) (hd : okName y = true) (hc : chkE bts N m sc e c = true) (hn : noComp e = true) :
    PS X (.Assign [.Subscript (.Name y py) (.Constant (.int j) kk p2) p] e pos) (tS T X.K R a H0 (n + 1) (.sset i j c)) := by
  obtain ⟨d1, d2⟩ := okN hd
  have he := (ev_ok m FU sc X e c g.toGood hc).1
  refine (ps_asg he (pg_sub (pe_var (g.ix hi) (g.toGood.vis hv) d1 d2) pe_int set_list) (hs := by show swapsWith e (some (.Subscript (.Name y py) (.Constant (.int j) kk p2) p)) pos.line X.env = pure false; exact sw_no hn) (hw := rfl) rfl).imp fun D σ H h => ?_
  obtain ⟨O, env, S, fl, S', st, ev, po⟩ := h
  simp only [evS, Option.bind_eq_some_iff] at ev
  obtain ⟨⟨x, S1⟩, e1, e2⟩ := ev
  split at e2
  case h_2 => cases e2
  rename_i z scr c0 k0 hst hx hS
  have hx : x = .int z := hx
  have hS : S1 = some (scr, c0, k0) := hS
  subst hx
  subst hS
  refine ⟨_, a, env, S, _, _, st.at, e1, fun v H' k1 s1 r1 => ?_⟩
  have st1 := st.step k1 s1
  have hv := r1.int
  subst hv
  obtain ⟨w, h1, h2⟩ := st1.en.get i _ hst
  have hw : w = .ref a := by cases (show Rep _ _ _ _ _ _ from h2); rfl
  subst hw
  obtain ⟨q, g1, g2, g3, g4⟩ := s1
  have kq : ∀ l, Keep a H' (L2.upd H' a (.lst (.ref q :: l))) := fun l => by
    refine ⟨fun b o e n => by rw [upd_ne n]; exact e, fun b e => ?_, fun q' r' e => ⟨l, ?_⟩⟩
    · by_cases hb : b = a
      · subst hb; rw [upd_same]; exact fun z => by cases z
      · rw [upd_ne hb]; exact e
    · rw [g1] at e
      injection e with e
      injection e with e
      injection e with e _
      injection e with e
      subst e
      exact upd_same
  refine ⟨_, h1, ?_⟩
  split at e2
  · rename_i hj
    subst hj
    simp only [Option.some.injEq, Prod.mk.injEq] at e2
    obtain ⟨rfl, rfl⟩ := e2
    refine ⟨a, _, 1, 1, rfl, rfl, g1, rfl, ?_⟩
    exact po O σ _ ((Ev.of k1).trans (Ev.of (kq _))) (st1.step (kq [.int z, .int k0]) ⟨q, upd_same, by rw [upd_ne g3]; exact g2, g3, g4⟩)
  · split at e2
    · rename_i hj
      subst hj
      simp only [Option.some.injEq, Prod.mk.injEq] at e2
      obtain ⟨rfl, rfl⟩ := e2
      refine ⟨a, _, 2, 2, rfl, rfl, g1, rfl, ?_⟩
      exact po O σ _ ((Ev.of k1).trans (Ev.of (kq _))) (st1.step (kq [.int c0, .int z]) ⟨q, upd_same, by rw [upd_ne g3]; exact g2, g3, g4⟩)
    · cases e2
/-- f(..).append(e): the list that f returns is new, and dropped -/
theorem ps_dropV {f : Str} {y : Expr} {es : List Expr} {l : List CE} {m : Nat} {p p1 p2 apos : Pos} (g : GoodS T bts N sc X) (hg : gl sc f = true) (hd : okName f = true) (h4 : chkL (chkE bts N m sc) (y :: es) l = true) (hc : chkE bts N m sc e c = true) (hs : notStar e = true) (hline : (apos.endLine == p.line) = true) :
    PS X (.Expr (.Call (.Attribute (.Call (.Name f p1) (y :: es) [] p2) "append" apos) [e] [] p) pos) (tS T X.K R a H0 (n + 1) (.drop f l c)) := by
  cases hT : T.fn f with
  | none => exact ⟨fun pins s σ H D I h => by
      obtain ⟨O, env, S, fl, S', st, ev, po⟩ := h
      simp [evS, hT] at ev⟩
  | some φ =>
    have he := (ev_ok m FU sc X e c g.toGood hc).1
    have ihP : ∀ e c, chkE bts N m sc e c = true → PE X e (tV T X.K FU c) := fun e c h => (ev_ok m FU sc X e c g.toGood h).1
    have t : chkL (chkE bts N m sc) es l.tail = true := by
      cases l with
      | nil => simp [chkL] at h4
      | cons a l => simp only [chkL, Bool.and_eq_true] at h4; exact h4.2
    obtain ⟨pa, fd, ps, k, cx, h0, h1, h2, h3, h5, h6, h7⟩ := (g.fns f φ hT).ex
    refine (ps_expr (pe_bm PySem.F.plainAttrs_list PySem.F.slot_list_append PySem.F.type_list_append mt_append (pe_call (dvs := []) h5 h6 (g.toGood.gl hg) h1 h2 h3 .nil (h7 X rfl rfl) (pa_ev ihP _ _ h4) (okN hd).1 (star1 (chkL_ne h4)) (chkL_plain t)) (pa_cons he pa_nil (star1 hs)) rfl (by rw [star1 hs]; rfl) hline (star1 hs) rfl)).imp fun D σ H h => ?_
    obtain ⟨O, env, S, fl, S', st, ev, po⟩ := h
    simp only [evS, hT, Option.bind_some, Option.bind_eq_some_iff] at ev
    obtain ⟨⟨xs, S1⟩, e1, e2⟩ := ev
    split at e2
    case isFalse => cases e2
    rename_i hl
    rw [Bool.and_eq_true, decide_eq_true_eq] at hl
    simp only [Option.bind_eq_some_iff] at e2
    obtain ⟨⟨o, S2⟩, e2, e3⟩ := e2
    split at e3
    case h_2 => cases e3
    rename_i zs hz
    have hz : o = .ret (.lst zs) := hz
    subst hz
    split at e3
    case isFalse => cases e3
    rename_i hlen
    rw [Bool.and_eq_true, Bool.and_eq_true, decide_eq_true_eq] at hlen
    simp only [Option.bind_eq_some_iff] at e3
    obtain ⟨⟨u, S3⟩, e3, e4⟩ := e3
    split at e4
    case isFalse => cases e4
    rename_i hS13
    simp only [Option.some.injEq, Prod.mk.injEq] at e4
    obtain ⟨rfl, rfl⟩ := e4
    have A := st.at
    refine ⟨_, a, env, S, xs, S1, A, e1, fun vs H1 k1 s1 r1 => ?_⟩
    show spF X.K φ.1 φ.2 (vs ++ []) H1 _ E0
    rw [List.append_nil]
    have st1 := st.step k1 s1
    have hfl : PV.flats xs = true := by
      have : ∀ l : List PV, l.all PV.flat = true → PV.flats l = true := by
        intro l
        induction l with
        | nil => intro _; rfl
        | cons x l ih => intro h; rw [List.all_cons, Bool.and_eq_true] at h; simp only [PV.flats, h.1, ih h.2, Bool.and_self]
      exact this xs hl.2
    have hno : xs.all (fun x => !x.isOwn) = true := by
      refine List.all_eq_true.mpr fun x hx => ?_
      have := List.all_eq_true.mp hl.2 x hx
      cases x <;> first | rfl | (simp [PV.flat] at this)
    have ra : ¬ (H1 a = none) ∨ True := .inr trivial
    -- what is free now
    by_cases ha : H1 a = none
    · -- the stream is none here
      have hS : S1 = none := by
        cases S1 with
        | none => rfl
        | some t =>
          obtain ⟨scr, c0, k0⟩ := t
          obtain ⟨q, g1, _⟩ := s1
          rw [ha] at g1; cases g1
      exact absurd ha (fun _ => st1.fr.na (st1.fr.fc a ha))
    · refine ⟨fun b => H1 b = none ∨ nO R O b ∧ False ∨ (∃ scr c0 k0 q, S1 = some (scr, c0, k0) ∧ b = q ∧ H1 a = some (.lst [.ref q, .int c0, .int k0])), a, xs, S1, .ret (.lst zs), S2, ⟨fun b hb => .inl hb, ?_⟩, (r1.reps hno).flat hfl, ?_, hl.1, e2, fun v H2 k2 s2 r2 => ?_⟩
      · rintro (hb | hb | ⟨scr, c0, k0, q, _, e, hq⟩)
        · exact ha hb
        · exact hb.2
        · cases S1 with
          | none => rename_i e0; cases e0
          | some t =>
            obtain ⟨scr', c', k'⟩ := t
            obtain ⟨q', g1, g2, g3, g4⟩ := s1
            rw [g1] at hq
            cases hq
            exact g3 e.symm
      · cases S1 with
        | none => trivial
        | some t =>
          obtain ⟨scr', c', k'⟩ := t
          obtain ⟨q', g1, g2, g3, g4⟩ := s1
          exact ⟨q', g1, g2, g3, .inr (.inr ⟨_, _, _, _, rfl, rfl, g1⟩)⟩
      · cases r2 with
        | @lst la vs2 _ hl2 hla hR2 rs2 =>
          -- it is new
          have new : H1 la = none := by
            rcases hR2 with hb | hb | ⟨scr, c0, k0, q, eS, rfl, hq⟩
            · exact hb
            · exact hb.2.elim
            · exfalso
              subst eS
              obtain ⟨q', g1, g2, g3, g4⟩ := s1
              rw [g1] at hq
              have eq : q' = la := by
                injection hq with hq
                injection hq with hq
                injection hq with hq _
                injection hq
              subst eq
              have g2' := k2.1 _ _ g2 g3
              rw [hl2] at g2'
              cases g2'
              obtain ⟨x, hx, hxt⟩ := List.any_eq_true.mp hlen.2
              obtain ⟨i, hi⟩ := List.getElem?_of_mem hx
              obtain ⟨w, hw, rw'⟩ := rs2.get hi
              rw [List.getElem?_map] at hw
              cases hsc : scr[i]? with
              | none => rw [hsc] at hw; cases hw
              | some z =>
                rw [hsc] at hw
                cases hw
                cases rw'
                cases hxt
          have s2' : SRel X.K (nO R O) a H2 S2 := st1.sr.back k2 s2 hlen.1.2
          have st2 := st1.step k2 s2'
          refine ⟨.inl ⟨rfl, vs2, SqL.of hl2⟩, _, a, env, S2, u, S3, st2.at, e3, fun w H3 k3 s3 r3 => ?_⟩
          have h3 := k3.1 _ _ hl2 hla
          have kk : Keep a H1 (L2.upd H3 la (.lst (vs2 ++ [w]))) := Keep.updD new hla (k2.trans k3)
          have s4 : SRel X.K (nO R O) a (L2.upd H3 la (.lst (vs2 ++ [w]))) S3 := by
            cases S3 with
            | none => trivial
            | some t =>
              obtain ⟨scr, c0, k0⟩ := t
              obtain ⟨q, g1, g2, g3, g4⟩ := s3
              have hql : q ≠ la := fun z => by
                have hq1 : ∃ o, H1 q = some o := by
                  cases S1 with
                  | none => simp at hS13
                  | some t1 =>
                    obtain ⟨scr1, c1, k1'⟩ := t1
                    obtain ⟨q1, f1, f2, f3, f4⟩ := s1
                    obtain ⟨r', e⟩ := (k2.trans k3).2.2 _ _ f1
                    rw [g1] at e
                    have eq : q = q1 := by
                      injection e with e
                      injection e with e
                      injection e with e _
                      injection e
                    exact ⟨_, by rw [eq]; exact f2⟩
                obtain ⟨o, ho⟩ := hq1
                rw [z, new] at ho; cases ho
              exact ⟨q, by rw [upd_ne (Ne.symm hla)]; exact g1, by rw [upd_ne hql]; exact g2, g3, g4⟩
          refine ⟨la, vs2, w, rfl, rfl, h3, ?_, po O σ _ ((Ev.of k1).trans (Ev.of kk)) (st1.step kk s4)⟩
          have := rs2.length
          have : sizeLine = 16777216 := sizeLine_eq
          have : zs.length < 1000000 := hlen.1.1
          omega
end
end Ws

/-! Ws14b: a, b = x, y; xs[k] += e. -/
namespace Ws
open PySem PySem.Spec PyProof.Rows L2

def nstar : Expr → Bool
  | .Starred _ _ => false
  | _ => true
/-- two local names on one row, values that are not folded -/
def swapOk (sc : Scope) (x y : Str) (px py : Pos) (vs : List Expr) : Bool :=
  (sc.names.lookup x == some .local) && (sc.names.lookup y == some .local) && (py.line == px.line) && !(x == y) && vs.all nstar && !(vs.all (foldedForSure 8)) && !(vs.all (constantsAlone 8))
def swapNo (sc : Scope) (ts : List Expr) : Bool :=
  !(ts.length == 2 || ts.length == 3) || ts.any fun | .Name id _ => !(sc.names.lookup id == some .local) | _ => true
theorem filterMap_full {α β : Type} {f : α → Option β} : ∀ {l : List α}, (l.filterMap f).length = l.length → ∀ e ∈ l, ∃ b, f e = some b
  | [], _, e, h => by simp at h
  | x :: l, h, e, he => by
    cases hx : f x with
    | none =>
      rw [List.filterMap_cons_none hx, List.length_cons] at h
      have := List.length_filterMap_le f l
      omega
    | some b =>
      rw [List.filterMap_cons_some hx, List.length_cons, List.length_cons] at h
      rcases List.mem_cons.mp he with rfl | he
      · exact ⟨b, hx⟩
      · exact filterMap_full (Nat.succ.inj h) e he
section
variable {X : Cx} {sc : Scope}
theorem swap_ok {x y : Str} {px py pt : Pos} {a b : Expr} {kt k2 : Nat} {pt2 : Pos} (hs : X.env.scope = sc) (hk : sc.kind = .function) (h : swapOk sc x y px py [a, b] = true) :
    swappedStores [.Tuple [.Name x px, .Name y py] kt pt] (.Tuple [a, b] k2 pt2) X.env = pure (some [x, y]) := by
  unfold swapOk at h
  simp only [Bool.and_eq_true, beq_iff_eq, Bool.not_eq_true', List.all_cons, List.all_nil, Bool.and_true] at h
  obtain ⟨⟨⟨⟨⟨⟨h1, h2⟩, h3⟩, h4⟩, h5⟩, h6⟩, h7⟩ := h
  have hb : X.env.blockKind = .function := by unfold Env.blockKind; rw [hs, hk]; rfl
  have k1 : X.env.kindOf x = some .local := by show X.env.scope.names.lookup x = _; rw [hs]; exact h1
  have k2 : X.env.kindOf y = some .local := by show X.env.scope.names.lookup y = _; rw [hs]; exact h2
  have hxy : (x == y) = false := h4
  have hyx : (y == x) = false := by
    rw [beq_eq_false_iff_ne] at hxy ⊢
    exact fun z => hxy z.symm
  have nd : ([x, y].eraseDups).length = 2 := by
    show (List.eraseDupsBy _ [x, y]).length = 2
    simp [List.eraseDupsBy, List.eraseDupsBy.loop, hyx, hxy]
  unfold swappedStores
  have c1 : (!(([Expr.Name x px, Expr.Name y py].length == 2) || ([Expr.Name x px, Expr.Name y py].length == 3)) || ([a, b].length != [Expr.Name x px, Expr.Name y py].length) || (X.env.blockKind != .function)) = false := by rw [hb]; rfl
  dsimp only
  rw [if_neg (by rw [c1]; exact Bool.false_ne_true)]
  split
  · rename_i hst
    exfalso
    obtain ⟨e, he, hs2⟩ := List.any_eq_true.mp hst
    have hn : nstar e = true := by
      have he : e = a ∨ e = b := by simpa using he
      rcases he with rfl | rfl
      · exact h5.1
      · exact h5.2
    cases e <;> first | (simp at hs2; done) | (simp [nstar] at hn)
  · generalize hL : List.filterMap _ [Expr.Name x px, Expr.Name y py] = L
    have hnm : L = [x, y] := by
      rw [← hL]
      simp [k1, k2, h3, Expr.pos]
    rw [hnm]
    rw [if_neg (by rw [nd]; simp)]
    rw [if_neg (by simpa using h6), if_neg (by simpa using h7)]
theorem swap_no {ts vs : List Expr} {k k2 : Nat} {pt pt2 : Pos} (hs : X.env.scope = sc) (h : swapNo sc ts = true) : swappedStores [.Tuple ts k pt] (.Tuple vs k2 pt2) X.env = pure none := by
  unfold swappedStores
  dsimp only
  split
  · rfl
  rename_i h1
  split
  · rfl
  rw [if_pos]
  · unfold swapNo at h
    rw [Bool.or_eq_true] at h
    rcases h with h | h
    · exfalso
      refine h1 ?_
      simp only [Bool.or_eq_true]
      exact .inl (.inl h)
    · rw [Bool.or_eq_true]
      refine .inl ?_
      obtain ⟨e, he, hn⟩ := List.any_eq_true.mp h
      rw [bne_iff_ne]
      intro hl
      obtain ⟨b, hb⟩ := filterMap_full hl e he
      cases e with
      | Name id p =>
        dsimp only at hb hn
        split at hb
        · rename_i hc
          rw [Bool.and_eq_true] at hc
          have hc1 : (X.env.scope.names.lookup id == some .local) = true := hc.1
          rw [hs] at hc1
          rw [hc1] at hn
          cases hn
        · cases hb
      | _ => cases hb
end
section
variable {T : Tbl} {bts N : List Str} {sc : Scope} {X : Cx} {n : Nat} {R : Addr → Prop} {a : Addr} {H0 : Hp} {e k : Expr} {c d : CE} {pos : Pos}
/-- a, b = x, y, both local -/
theorem ps_parV {i j m : Nat} {x y : Str} {px py pt : Pos} {kt k2 : Nat} {pt2 : Pos} {u v : Expr} {cu cv : CE} (g : GoodS T bts N sc X) (hi : (N[i]? == some x) = true) (hj : (N[j]? == some y) = true) (hij : (i == j) = false) (h : swapOk sc x y px py [u, v] = true) (hu : chkE bts N m sc u cu = true) (hv : chkE bts N m sc v cv = true) :
    PS X (.Assign [.Tuple [.Name x px, .Name y py] kt pt] (.Tuple [u, v] k2 pt2) pos) (tS T X.K R a H0 (n + 1) (.par i j cu cv)) := by
  have h' := h
  unfold swapOk at h'
  simp only [Bool.and_eq_true, beq_iff_eq, Bool.not_eq_true', List.all_cons, List.all_nil, Bool.and_true] at h'
  obtain ⟨⟨⟨⟨⟨⟨h1, h2⟩, h3⟩, h4⟩, h5⟩, h6⟩, h7⟩ := h'
  have nu : notStar u = true := by cases u <;> first | rfl | (simp [nstar] at h5)
  have nv : notStar v = true := by cases v <;> first | rfl | (simp [nstar] at h5)
  have lx : X.env.scope.names.lookup x = some .local := by rw [g.hs]; exact h1
  have ly : X.env.scope.names.lookup y = some .local := by rw [g.hs]; exact h2
  have hpa := pa_cons (ev_ok m FU sc X u cu g.toGood hu).1 (pa_cons (ev_ok m FU sc X v cv g.toGood hv).1 pa_nil (star1 nv)) (star1 nu)
  refine (ps_par g.calm (by rw [g.hN]; exact g.nd) (g.ix hi) (g.ix hj) (by simpa using hij) lx ly hpa (swap_ok g.hs g.kind h) (by cases u <;> rfl)).imp fun D σ H hq => ?_
  obtain ⟨O, env, S, fl, S', st, ev, po⟩ := hq
  simp only [evS, Option.bind_eq_some_iff] at ev
  obtain ⟨⟨r, S1⟩, e1, ⟨q, S2⟩, e2, e3⟩ := ev
  split at e3
  · cases e3
  rename_i ho
  simp only [Bool.or_eq_true, not_or, Bool.not_eq_true] at ho
  simp only [Option.some.injEq, Prod.mk.injEq] at e3
  obtain ⟨rfl, rfl⟩ := e3
  refine ⟨_, a, env, S, r, S1, st.at, e1, fun w H1 k1 s1 r1 => ⟨_, a, env, S1, q, S2, (st.step k1 s1).at, e2, fun w2 H2 k2 s2 r2 => ⟨w, w2, rfl, ?_⟩⟩⟩
  exact po _ _ _ ((Ev.of k1).trans (Ev.of k2)) ((((st.step k1 s1).step k2 s2).set ((r1.keep k2).rep ho.1) i).set (r2.rep ho.2) j)
/-- targets = a tuple, not swapped -/
theorem ps_asgP {m : Nat} {es vs : List Expr} {k k2 : Nat} {tp p2 : Pos} {l : List Nat} (g : GoodS T bts N sc X) (ht : chkTg N sc (.Tuple es k tp) (.tp l) = true) (hc : chkE bts N m sc (.Tuple vs k2 p2) c = true) (h2 : swapNo sc es = true) : PS X (.Assign [.Tuple es k tp] (.Tuple vs k2 p2) pos) (tS T X.K R a H0 (n + 1) (.asg (.tp l) c)) := by
  refine (ps_asg (ev_ok m FU sc X _ c g.toGood hc).1 (pg_ev g.calm g.sto ht) (hs := rfl) (hw := swap_no g.hs h2) rfl).imp fun D σ H h => asg_imp h
/-- xs[k], by values -/
theorem get_list : PGet X (rIxL X.K) := by
  intro pins s σ H x y v u Q I rx ry h
  obtain ⟨p, xs, i, z, rfl, rfl, hq, he, q⟩ := h
  cases rx
  obtain ⟨t, rfl⟩ := ry
  obtain ⟨its, r, pl, hz⟩ := I.list hq
  obtain ⟨j, h1, h2, h3, h4, h5⟩ := atI_get he
  obtain ⟨w, ew, rw'⟩ := r.get h2
  have hl := r.length
  have hn := line63
  have fin : EP X pins σ Q w s := ⟨z, H, I, rw', q⟩
  by_cases h0 : 0 ≤ i
  · have hj : i.toNat = j := by
      rw [seqIndex_of h0 h5] at h1
      exact Option.some.inj h1
    exact wpAny_mono (wpAny_getItem_list (Q := fun r s' => r = w ∧ EP X pins σ Q r s') pl.isList h0 (by omega) (by rw [hj]; simpa using ew) ⟨rfl, fin⟩) (fun _ _ z => z.2) fun _ _ z => z
  · have hj : (i + (its.toArray.size : Int)).toNat = j := by
      rw [seqIndex_neg (by omega) h4] at h1
      rw [List.size_toArray, ← hl]
      exact Option.some.inj h1
    exact wpAny_mono (wpAny_getItem_list_neg (Q := fun r s' => r = w ∧ EP X pins σ Q r s') pl.isList (by omega) (by rw [List.size_toArray] <;> omega) (by omega) (by rw [hj]; simpa using ew) ⟨rfl, fin⟩) (fun _ _ z => z.2) fun _ _ z => z
/-- name[k] += e, ints -/
theorem ps_augIV {i m : Nat} {y : Str} {py p : Pos} (g : GoodS T bts N sc X) (hi : (N[i]? == some y) = true) (hv : vis sc y = true) (hd : okName y = true) (hc : chkE bts N m sc e c = true) (hk : chkE bts N m sc k d = true) (hns : notSlice k = true) :
    PS X (.AugAssign (.Subscript (.Name y py) k p) .Add e pos) (tS T X.K R a H0 (n + 1) (.augI i d c)) := by
  obtain ⟨d1, d2⟩ := okN hd
  have he := (ev_ok m FU sc X e c g.toGood hc).1
  have hk := (ev_ok m FU sc X k d g.toGood hk).1
  refine (ps_augS (pe_var (g.ix hi) (g.toGood.vis hv) d1 d2) hk get_list he ip_add set_list (by intros; cases k <;> first | rfl | (simp [notSlice] at hns))).imp fun D σ H h => ?_
  obtain ⟨O, env, S, fl, S', st, ev, po⟩ := h
  simp only [evS, Option.bind_eq_some_iff] at ev
  obtain ⟨⟨z, S1⟩, e1, l, e2, e3⟩ := ev
  split at e3
  case h_2 => cases e3
  rename_i j hj
  have hj : z = .int j := hj
  subst hj
  simp only [Option.bind_eq_some_iff] at e3
  obtain ⟨old, e4, ⟨w, S2⟩, e5, e6⟩ := e3
  split at e6
  case h_2 => cases e6
  rename_i x0 y0 hy
  have hy : w = .int y0 := hy
  subst hy
  simp only [Option.map_eq_some_iff, Prod.mk.injEq] at e6
  obtain ⟨q, hq, rfl, rfl⟩ := e6
  have ho := own_at e2
  obtain ⟨la, vs, h1, h2, h3, h4, h5⟩ := st.own ho
  refine ⟨_, h1, _, a, env, S, _, S1, st.at, e1, fun u H1 k1 s1 r1 => ?_⟩
  have st1 := st.step k1 s1
  have h3' := k1.1 _ _ h3 h4
  obtain ⟨v0, g1, g2⟩ := (h5.keep k1).at e4
  have hv0 : v0 = .int x0 := by cases g2; rfl
  subst hv0
  refine ⟨la, vs, j, _, rfl, r1.int, SqL.of h3', g1, _, a, env, S1, _, S2, st1.at, e5, fun u2 H2 k2 s2 r2 => ⟨x0, y0, rfl, r2.int, ?_⟩⟩
  have st2 := st1.step k2 s2
  have h3'' := k2.1 _ _ h3' h4
  obtain ⟨m1, m2⟩ := st2.mut (xs' := l.set q (.int (x0 + y0))) (vs' := vs.set q (.int (x0 + y0))) ho h1 h2 h3'' (((h5.keep k1).keep k2).set q (.int _))
  exact ⟨la, vs, j, q, rfl, r1.int, h3'', by rw [h5.length]; exact hq, po _ _ _ (((Ev.of k1).trans (Ev.of k2)).trans m2) m1⟩
end
end Ws

/-! Ws14c: [xs.pop(e) for k in range(..)], wrapped. -/
namespace Ws
open PySem PySem.Spec PyProof.Rows L2

theorem seqIx_of {n : Nat} {i : Int} {m : Nat} (h : ixN n i = some m) : seqIndex? i n = some m ∧ m < n := by
  unfold ixN at h
  unfold seqIndex?
  split at h
  · rename_i h0
    split at h
    · rename_i h1
      cases h
      have e : (if i < 0 then i + (n : Int) else i) = i := if_neg (by omega)
      refine ⟨?_, by omega⟩
      dsimp only
      rw [e, decide_eq_true h0, decide_eq_true h1]; rfl
    · cases h
  · rename_i h0
    split at h
    · rename_i h1
      cases h
      have e : (if i < 0 then i + (n : Int) else i) = i + n := if_pos (by omega)
      refine ⟨?_, by omega⟩
      dsimp only
      rw [e, decide_eq_true (by omega : 0 ≤ i + (n : Int)), decide_eq_true (by omega : i + (n : Int) < n)]; rfl
    · cases h
section
variable {K : PySem.W.Frag} {R : Addr → Prop} {a : Addr} {H H' : Hp} {O O' : Addr → Prop}
mutual
/-- what reaches no owned list stays while only owned lists change -/
theorem Rep.un (v : ∀ b o, H b = some o → b ≠ a → ¬ O b → H' b = some o ∧ ¬ O' b) (ho : ∀ b, O b → ∃ vs, H b = some (.lst vs)) : ∀ {u : V} {x : PV}, Rep K (nO R O) a H u x → Rep K (nO R O') a H' u x
  | _, _, .non => .non
  | _, _, .bl b => .bl b
  | _, _, .int i => .int i
  | _, _, .str s => .str s
  | _, _, .ty n => .ty n
  | _, _, .stm => .stm
  | _, _, .tup h n r => .tup (v _ _ h n fun o => by obtain ⟨vs, e⟩ := ho _ o; rw [h] at e; cases e).1 n (Reps.un v ho r)
  | _, _, .lst h n q r => .lst (v _ _ h n q.2).1 n ⟨q.1, (v _ _ h n q.2).2⟩ (Reps.un v ho r)
theorem Reps.un (v : ∀ b o, H b = some o → b ≠ a → ¬ O b → H' b = some o ∧ ¬ O' b) (ho : ∀ b, O b → ∃ vs, H b = some (.lst vs)) : ∀ {u : List V} {x : List PV}, Reps K (nO R O) a H u x → Reps K (nO R O') a H' u x
  | _, _, .nil => .nil
  | _, _, .cons r rs => .cons (Rep.un v ho r) (Reps.un v ho rs)
end
mutual
/-- an owned list that nothing reaches may change -/
theorem Rep.updO {D : Addr} {l l' : List V} (hO : O D) (hD : H D = some (.lst l)) : ∀ {u : V} {x : PV}, Rep K (nO R O) a H u x → Rep K (nO R O) a (L2.upd H D (.lst l')) u x
  | _, _, .non => .non
  | _, _, .bl b => .bl b
  | _, _, .int i => .int i
  | _, _, .str s => .str s
  | _, _, .ty n => .ty n
  | _, _, .stm => .stm
  | _, _, .tup h n r => .tup (by rw [upd_ne (ne_of h hD (fun z => by cases z))]; exact h) n (Reps.updO hO hD r)
  | _, _, .lst h n q r => .lst (by rw [upd_ne (fun e => q.2 (by rw [e]; exact hO))]; exact h) n q (Reps.updO hO hD r)
theorem Reps.updO {D : Addr} {l l' : List V} (hO : O D) (hD : H D = some (.lst l)) : ∀ {u : List V} {x : List PV}, Reps K (nO R O) a H u x → Reps K (nO R O) a (L2.upd H D (.lst l')) u x
  | _, _, .nil => .nil
  | _, _, .cons r rs => .cons (Rep.updO hO hD r) (Reps.updO hO hD rs)
end
end
section
variable {K : PySem.W.Frag} {R : Addr → Prop} {a : Addr} {H0 H : Hp} {O : Addr → Prop} {σ : L2.St} {env : Env} {S : Strm} {D : Addr}
abbrev oD (O : Addr → Prop) (D : Addr) : Addr → Prop := fun b => O b ∨ b = D
theorem nO_oD {R O : Addr → Prop} {D b : Addr} (h : but (nO R O) D b) : nO R (oD O D) b := ⟨h.1.1, fun z => z.elim h.1.2 h.2⟩
theorem nO_of {R O : Addr → Prop} {D b : Addr} (h : nO R (oD O D) b) : nO R O b := ⟨h.1, fun z => h.2 (.inl z)⟩
/-- a new list that no name holds -/
theorem StR.addO (s : StR K R a H0 O σ H env S) (hD : H D = none) : StR K R a H0 (oD O D) σ (L2.upd H D (.lst [])) env S ∧ ∀ (j : Nat) (ys : List PV), env[j]? = some (some (.own ys)) → σ[j]? ≠ some (some (V.ref D)) := by
  have hDa : D ≠ a := s.fr.ne hD
  have k : Keep a H (L2.upd H D (.lst [])) := Keep.upd hD
  have nO' : ∀ b, O b → b ≠ D := fun b o e => by obtain ⟨⟨vs, z⟩, _⟩ := s.ow b o; rw [e, hD] at z; cases z
  have hne : ∀ (j : Nat) (ys : List PV), env[j]? = some (some (.own ys)) → σ[j]? ≠ some (some (V.ref D)) := fun j ys g e => by
    obtain ⟨l, h1, h2⟩ := s.od j ys g
    rw [h1] at e
    cases e
    exact nO' _ h2 rfl
  refine ⟨⟨s.f0, s.kp.trans k, fun b o => ?_, ⟨s.en.len, fun j x g => ?_⟩, fun j ys g => ?_, s.ds, ?_⟩, hne⟩
  · rcases o with o | rfl
    · obtain ⟨⟨vs, z⟩, h2, h3⟩ := s.ow b o
      exact ⟨⟨vs, by rw [upd_ne (nO' b o)]; exact z⟩, h2, h3⟩
    · exact ⟨⟨[], upd_same⟩, s.kp.fresh hD, hDa⟩
  · obtain ⟨v, g1, g2⟩ := s.en.get j x g
    refine ⟨v, g1, ?_⟩
    have r := g2.toD hD k
    cases x with
    | own ys => obtain ⟨l, vs, e, h, n, q⟩ := r; exact ⟨l, vs, e, h, n, q.mono (fun b => nO_oD) Keep.refl⟩
    | _ => exact Rep.mono (fun b => nO_oD) Keep.refl r
  · obtain ⟨l, h1, h2⟩ := s.od j ys g
    exact ⟨l, h1, .inl h2⟩
  · have r := SRel.toD hD s.sr
    cases S with
    | none => trivial
    | some t =>
      obtain ⟨scr, c, kk⟩ := t
      obtain ⟨q, h1, h2, h3, h4⟩ := r
      exact ⟨q, by rw [upd_ne (Ne.symm hDa)]; exact h1, by rw [upd_ne h4.2]; exact h2, h3, nO_oD h4⟩
/-- it grows -/
theorem StR.updO (s : StR K R a H0 O σ H env S) {l l' : List V} (hO : O D) (hD : H D = some (.lst l)) (hn : ∀ (j : Nat) (ys : List PV), env[j]? = some (some (.own ys)) → σ[j]? ≠ some (some (V.ref D))) : StR K R a H0 O σ (L2.upd H D (.lst l')) env S := by
  obtain ⟨_, hl0, hla⟩ := s.ow D hO
  refine ⟨s.f0, Keep.updD hl0 hla s.kp, fun b o => ?_, ⟨s.en.len, fun j x g => ?_⟩, s.od, s.ds, ?_⟩
  · obtain ⟨⟨ws, e⟩, h2, h3⟩ := s.ow b o
    by_cases hb : b = D
    · subst hb; exact ⟨⟨l', upd_same⟩, h2, h3⟩
    · exact ⟨⟨ws, by rw [upd_ne hb]; exact e⟩, h2, h3⟩
  · obtain ⟨v, g1, g2⟩ := s.en.get j x g
    refine ⟨v, g1, ?_⟩
    cases x with
    | own ys =>
      obtain ⟨la, vs, rfl, h, n, q⟩ := g2
      have hne : la ≠ D := fun e => hn j ys g (by rw [g1, e])
      exact ⟨la, vs, rfl, by rw [upd_ne hne]; exact h, n, q.updO hO hD⟩
    | _ => exact Rep.updO hO hD g2
  · have r := s.sr
    cases S with
    | none => trivial
    | some t =>
      obtain ⟨scr, c, kk⟩ := t
      obtain ⟨q, h1, h2, h3, h4⟩ := r
      exact ⟨q, by rw [upd_ne (Ne.symm hla)]; exact h1, by rw [upd_ne (fun e => h4.2 (by rw [e]; exact hO))]; exact h2, h3, h4⟩
/-- it is handed out -/
theorem StR.lessO (s : StR K R a H0 (oD O D) σ H env S) (hn : ∀ (j : Nat) (ys : List PV), env[j]? = some (some (.own ys)) → σ[j]? ≠ some (some (V.ref D))) : StR K R a H0 O σ H env S := by
  refine ⟨s.f0, s.kp, fun b o => s.ow b (.inl o), ⟨s.en.len, fun j x g => ?_⟩, fun j ys g => ?_, s.ds, s.sr.mono fun b => nO_of⟩
  · obtain ⟨v, g1, g2⟩ := s.en.get j x g
    refine ⟨v, g1, ?_⟩
    cases x with
    | own ys => obtain ⟨l, vs, e, h, n, q⟩ := g2; exact ⟨l, vs, e, h, n, q.mono (fun b => nO_of) Keep.refl⟩
    | _ => exact Rep.mono (fun b => nO_of) Keep.refl g2
  · obtain ⟨l, h1, h2⟩ := s.od j ys g
    refine ⟨l, h1, h2.resolve_right fun e => ?_⟩
    subst e
    exact hn j ys g h1
end
theorem popL_step {step : List PV → PV → Strm → Option ((PV × List PV) × Strm)} {its : List PV} {l : List PV} {S S2 : Strm} {ys lf : List PV} {x : PV} {i : Nat} (h : popL step (its.drop i) l S = some ((ys, lf), S2)) (hx : its[i]? = some x) :
    ∃ y l1 S1 ys', step l x S = some ((y, l1), S1) ∧ popL step (its.drop (i + 1)) l1 S1 = some ((ys', lf), S2) ∧ ys = y :: ys' := by
  obtain ⟨hi, e⟩ := List.getElem?_eq_some_iff.mp hx
  have ed : its.drop i = x :: its.drop (i + 1) := by rw [List.drop_eq_getElem_cons hi, e]
  rw [ed] at h
  simp only [popL, Option.bind_eq_some_iff, Option.map_eq_some_iff] at h
  obtain ⟨⟨⟨y, l1⟩, S1⟩, h1, ⟨⟨ys', l2⟩, S3⟩, h2, h3⟩ := h
  simp only [Prod.mk.injEq] at h3
  obtain ⟨⟨h3, rfl⟩, rfl⟩ := h3
  exact ⟨y, l1, S1, ys', h1, h2, h3.symm⟩
theorem Reps.eraseIdx {K : PySem.W.Frag} {R : Addr → Prop} {a : Addr} {H : Hp} : ∀ {vs : List V} {xs : List PV} (k : Nat), Reps K R a H vs xs → Reps K R a H (vs.eraseIdx k) (xs.eraseIdx k)
  | _, _, _, .nil => by simpa using Reps.nil
  | _, _, 0, .cons r rs => by simpa using rs
  | _, _, k + 1, .cons r rs => by simpa using Reps.cons r (Reps.eraseIdx k rs)
section
variable {T : Tbl} {X : Cx} {R : Addr → Prop} {a : Addr} {H0 : Hp}
/-- where a pop's list stands, and what is wanted behind it -/
def tPop (T : Tbl) (K : PySem.W.Frag) (R : Addr → Prop) (a : Addr) (H0 : Hp) (i : Nat) (e : CE) (tg : Nat) (it : CI) (vs : List Nat) (w : List Bi) : TE := fun σ H Q =>
  ∃ O env S its S1 l xs l' S2 z, StR K R a H0 O σ H env S ∧ evI T FU it env S = some (its, S1) ∧ ownAt env i = some l ∧ its.length ≤ LIM ∧ popL (popS (fun e env S => evE T FU e env S) e tg i vs env) its l S1 = some ((xs, l'), S2) ∧ wrapV w (.lst xs) = some z ∧ z.isOwn = false ∧
    ∀ v H', StR K R a H0 O σ H' (env.set i (some (.own l'))) S2 → Ev a O H O H' → Rep K (nO R O) a H' v z → Q v H'
theorem pop_lc {i : Nat} {e : CE} {tg : Nat} {it : CI} {vs : List Nat} {σ : L2.St} {H : Hp} {Q : VK} (htg : vs.contains tg = true) (hi : vs.contains i = false) (hq : tPop T X.K R a H0 i e tg it vs [] σ H Q) :
    tLc (tI T X.K false FU it) (gTg X.K (.nm tg)) tYes (tBM X.K "list" rPopAt (tVar i) (tCons (tV T X.K FU e) tNil)) vs σ H Q := by
  obtain ⟨O, env, S, its, S1, l, xs, l', S2, z, st, ei, eo, hlen, ep, ew, hz, q⟩ := hq
  simp only [wrapV, Option.some.injEq] at ew
  subst ew
  refine ⟨_, a, env, S, its, S1, st.at, ei, fun J H1 k1 s1 io D hD => ?_⟩
  have st1 := st.step k1 s1
  have ho : ∀ b, O b → ∃ vs, H1 b = some (.lst vs) := fun b o => (st1.ow b o).1
  have nOD : ∀ b, O b → b ≠ D := fun b o e => by obtain ⟨ws, z⟩ := ho b o; rw [e, hD] at z; cases z
  obtain ⟨G, Y, wk, hG, hY⟩ := io.walk
  have hil : i < env.length := (List.getElem?_eq_some_iff.mp (own_at eo)).1
  have hnvs : i ∉ vs := by simpa using hi
  have ei0 : env.set i (some (.own l)) = env := by
    refine List.ext_getElem? fun j => ?_
    by_cases hj : i = j
    · subst hj; rw [List.getElem?_set_self hil]; exact (own_at eo).symm
    · rw [List.getElem?_set_ne hj]
  obtain ⟨stD, hne⟩ := st1.addO hD
  have hne' : ∀ (l : List PV) (j : Nat) (ys : List PV), (env.set i (some (.own l)))[j]? = some (some (.own ys)) → σ[j]? ≠ some (some (V.ref D)) := fun l j ys g => by
    by_cases hj : i = j
    · subst hj; exact hne i _ (own_at eo)
    · rw [List.getElem?_set_ne hj] at g; exact hne j ys g
  refine lc_it wk (fun n H' => ∃ l1 Si acc accP rest, StR X.K R a H0 (oD O D) σ H' (env.set i (some (.own l1))) Si ∧ (∀ b o, H1 b = some o → b ≠ a → ¬ O b → H' b = some o) ∧ H' D = some (.lst acc) ∧ Reps X.K (nO R (oD O D)) a H' acc accP ∧ acc.length ≤ n ∧
      popL (popS (fun e env S => evE T FU e env S) e tg i vs env) (its.drop n) l1 Si = some ((rest, l'), S2) ∧ accP ++ rest = xs) ?_ ?_ ?_ ?_
  · refine ⟨l, S1, [], [], xs, by rw [ei0]; exact stD, fun b o e n _ => ?_, upd_same, .nil, Nat.le_refl _, ep, rfl⟩
    rw [upd_ne (ne_of_none e hD)]; exact e
  · rintro n H' hn ⟨l1, Si, acc, accP, rest, st2, kk, _⟩
    refine hG H' fun b o e nb hh => kk b o e nb ?_
    rcases hh with hh | hh | ⟨ws, rfl⟩
    · cases hh
    · exact hh.2
    · intro o'
      obtain ⟨us, e'⟩ := ho b o'
      rw [e] at e'
      cases e'
  · rintro n x H2 H3 hn ⟨l1, Si, acc, accP, rest, st2, kk, d2, r2, l2, c2, p2⟩ y3
    have un : ∀ b o, H1 b = some o → b ≠ a → ¬ O b → H2 b = some o ∧ ¬ oD O D b := fun b o e nb no => ⟨kk b o e nb no, fun z => z.elim no (ne_of_none e hD)⟩
    obtain ⟨nw, y, hy, ry⟩ := hY (nO R (oD O D)) H2 st2.fr (fun vs xs r => r.un un ho) n x H3 hn y3
    obtain ⟨yv, l3, S3, ys', hst, c3, ej⟩ := popL_step c2 hy
    simp only [popS, Option.bind_eq_some_iff] at hst
    obtain ⟨env1, hb, ⟨rv, S4⟩, he, hl⟩ := hst
    split at hl
    case h_2 => cases hl
    rename_i j hj
    have hj : rv = .int j := hj
    subst hj
    split at hl
    case isFalse => cases hl
    rename_i hr
    simp only [Option.bind_eq_some_iff, Option.map_eq_some_iff, Prod.mk.injEq] at hl
    obtain ⟨m, hm, y0, hy0, ⟨rfl, rfl⟩, rfl⟩ := hl
    have k3 : Keep a H2 H3 := nw.keep
    have st3 := st2.step k3 (nw.srel st2.sr)
    have en : EnvE X.K (nO R (oD O D)) a H3 (wipe σ vs) (wipeE (env.set i (some (.own l1))) vs) := st3.en.wipe _
    refine bind_ok en ry.toE hb fun σ' en' hw => ⟨?_, ?_⟩
    · rw [hw vs fun k hk => by simp only [tgIx, List.mem_singleton] at hk; subst hk; simpa using htg, wipe_wipe]
    dsimp only [tYes]
    rw [if_pos rfl]
    -- the list's place
    have es : σ'[i]? = σ[i]? := by
      have e1 : wipe σ' vs = wipe (wipe σ vs) vs := hw vs fun k hk => by simp only [tgIx, List.mem_singleton] at hk; subst hk; simpa using htg
      have e2 : (wipe σ' vs)[i]? = (wipe (wipe σ vs) vs)[i]? := by rw [e1]
      rw [wipe_get, wipe_get, wipe_get, if_neg (fun z => hnvs z.1), if_neg (fun z => hnvs z.1), if_neg (fun z => hnvs z.1)] at e2
      exact e2
    have gi : (env.set i (some (.own l1)))[i]? = some (some (.own l1)) := List.getElem?_set_self hil
    obtain ⟨la, vl, g1, g2, g3, g4, g5⟩ := st3.own gi
    refine ⟨_, es.trans g1, ⟨?_, ?_⟩⟩
    · exact .inl ⟨rfl, vl, SqL.of g3⟩
    refine ⟨_, a, env1, Si, _, S4, ⟨st3.fr, en', st3.sr⟩, he, fun u H4 k4 s4 r4 => ?_⟩
    have ru : u = .int j := r4.int
    subst ru
    have st4 := st3.step k4 s4
    have g3' := k4.1 _ _ g3 g4
    have hll : vl.length = l1.length := g5.length
    obtain ⟨q1, q2⟩ := seqIx_of hm
    obtain ⟨w, hw1, hw2⟩ := (g5.keep k4).get hy0
    have hjr := inR_of hr
    refine ⟨la, vl, j, m, w, rfl, rfl, g3', by omega, by omega, by rw [hll]; exact q1, hw1, ?_⟩
    have d4 : H4 D = some (.lst acc) := k4.1 _ _ (k3.1 _ _ d2 (st2.ow D (.inr rfl)).2.2) (st2.ow D (.inr rfl)).2.2
    have hlaD : la ≠ D := fun z => hne' l1 i l1 gi (by rw [g1, z])
    obtain ⟨m1, m2⟩ := st4.mut (xs' := l1.eraseIdx m) (vs' := vl.eraseIdx m) gi g1 g2 g3' ((g5.keep k4).eraseIdx m)
    rw [List.set_set] at m1
    have d5 : (L2.upd H4 la (.lst (vl.eraseIdx m))) D = some (.lst acc) := by rw [upd_ne (Ne.symm hlaD)]; exact d4
    refine ⟨acc, d5, ?_, l1.eraseIdx m, S4, acc ++ [w], accP ++ [y0], ys', m1.updO (.inr rfl) d5 (hne' _), fun b o e nb no => ?_, upd_same, ?_, ?_, c3, ?_⟩
    · have : sizeLine = 16777216 := sizeLine_eq
      have : its.length ≤ 1000000 := hlen
      omega
    · have nD : b ≠ D := ne_of_none e hD
      have nla : b ≠ la := fun z => no ((show oD O D la from g2).elim (fun o => z ▸ o) fun e => absurd e hlaD)
      rw [upd_ne nD, upd_ne nla]
      exact k4.1 _ _ (k3.1 _ _ (kk b o e nb no) nb) nb
    · have ra : Reps X.K (nO R (oD O D)) a (L2.upd H4 la (.lst (vl.eraseIdx m))) (acc ++ [w]) (accP ++ [y0]) := (((r2.keep k3).keep k4).append (.cons hw2 .nil)).updO g2 g3'
      exact ra.updO (.inr rfl) d5
    · rw [List.length_append, List.length_singleton]; omega
    · rw [← p2, ej, List.append_assoc]; rfl
  · rintro H' ⟨l1, Si, acc, accP, rest, st2, kk, d2, r2, l2, c2, p2⟩
    rw [List.drop_length] at c2
    simp only [popL, Option.some.injEq, Prod.mk.injEq] at c2
    obtain ⟨⟨rfl, rfl⟩, rfl⟩ := c2
    rw [List.append_nil] at p2
    subst p2
    have fin := st2.lessO (hne' _)
    have nDO : ¬ O D := fun o => nOD D o rfl
    refine q _ H' fin ((Ev.of k1).trans ⟨fun b o e nb no => ⟨kk b o e nb no, no⟩⟩) (.lst d2 (st2.ow D (.inr rfl)).2.2 ⟨st.f0.fc D (st2.ow D (.inr rfl)).2.1, nDO⟩ (r2.mono (fun b => nO_of) Keep.refl))
end
end Ws

/-! Ws14d: a pop's list, wrapped, stored or returned. -/
namespace Ws
open PySem PySem.Spec PyProof.Rows L2

theorem ofD_own (d : PyData) : (ofD d).isOwn = false := by cases d <;> simp [ofD, PV.isOwn]
theorem mnV_own {l : List PV} {z : PV} (h1 : mnV l = some z) : z.isOwn = false := by
  unfold mnV at h1
  obtain ⟨ds, h2, h3⟩ := Option.bind_eq_some_iff.mp h1
  cases ds with
  | nil => cases h3
  | cons d dr =>
    dsimp only at h3
    split at h3
    · cases h3; exact ofD_own _
    · cases h3
theorem biV_own {b : Bi} {l : List PV} {z : PV} (h : biV b l = some z) : z.isOwn = false := by
  unfold biV at h
  split at h
  all_goals first
    | (obtain ⟨l0, h0, h1⟩ := Option.bind_eq_some_iff.mp h; exact mnV_own h1)
    | (cases h; rfl)
    | (simp only [Option.map_eq_some_iff, Option.bind_eq_some_iff] at h; obtain ⟨_, _, rfl⟩ := h; rfl)
    | (simp only [Option.map_eq_some_iff, Option.bind_eq_some_iff] at h; obtain ⟨_, _, _, _, rfl⟩ := h; rfl)
    | cases h
theorem wrapV_own {xs : List PV} : ∀ {w : List Bi} {z : PV}, wrapV w (.lst xs) = some z → z.isOwn = false
  | [], z, h => by simp only [wrapV, Option.some.injEq] at h; subst h; rfl
  | b :: w, z, h => by
    simp only [wrapV, Option.bind_eq_some_iff] at h
    obtain ⟨y, _, h2⟩ := h
    exact biV_own h2
section
variable (bts N : List Str)
def chkPop (m : Nat) (sc : Scope) (i : Nat) (c : CE) (tg : Nat) (it : CI) (own : List (Str × Nat)) : List Bi → Expr → Bool
  | [], e => match e with
    | .ListComp (.Call (.Attribute (.Name y _) f ap) [k] [] p) [⟨t, it', [], 0⟩] scope _ =>
      (f == ("pop" : Str)) && (N[i]? == some y) && vis (relS scope sc) y && okName y && notStar k && (ap.endLine == p.line) && chkI bts (chkE bts N m sc) sc t it' it && notSet it' && blkC N sc scope own && chkTg N scope t (.nm tg) &&
        (own.map (·.2)).contains tg && !((own.map (·.2)).contains i) && chkE bts N m (relS scope sc) k c
    | _ => false
  | b :: w, e => match e with
    | .Call (.Name x _) [e'] [] _ => (x == biName b) && gl sc x && bts.contains x && notStar e' && chkPop m sc i c tg it own w e'
    | _ => false
end
section
variable {T : Tbl} {bts N : List Str} {sc : Scope} {X : Cx} {n : Nat} {R : Addr → Prop} {a : Addr} {H0 : Hp} {pos : Pos}
theorem pe_popV {m : Nat} {i : Nat} {c : CE} {tg : Nat} {it : CI} {own : List (Str × Nat)} (g : GoodS T bts N sc X) : ∀ (w : List Bi) (e : Expr), chkPop bts N m sc i c tg it own w e = true → PE X e (tPop T X.K R a H0 i c tg it (own.map (·.2)) w)
  | [], e, h => by
    unfold chkPop at h
    split at h
    case h_2 => cases h
    rename_i y py f ap k p t it' scope pl
    simp only [Bool.and_eq_true, Bool.not_eq_true'] at h
    obtain ⟨⟨⟨⟨⟨⟨⟨⟨⟨⟨⟨⟨h1, h2⟩, h3⟩, h4⟩, h5⟩, h6⟩, h7⟩, h8⟩, h9⟩, h10⟩, h11⟩, h12⟩, h13⟩ := h
    have h1 : f = ("pop" : Str) := by simpa using h1
    subst h1
    obtain ⟨d1, d2⟩ := okN h4
    have ihP : ∀ e c, chkE bts N m sc e c = true → PE X e (tV T X.K FU c) := fun e c h => (ev_ok m FU sc X e c g.toGood h).1
    refine (pe_lc (wi := tI T X.K false FU it) (g := gTg X.K (.nm tg)) (tt := tYes) (te := tBM X.K "list" rPopAt (tVar i) (tCons (tV T X.K FU c) tNil)) g.calm (by rw [g.hN]; exact g.nd) (chkI_ev (ok := false) g.toGood ihP h7) (blkOk_by (by rw [g.hN, g.hs]; exact h9))
      (fun s H C cl fp => pg_ev (X := X.blk s H scope (compEnvC scope cl C X.env) fp) g.calm (g.toGood.sto s H scope C cl fp) h10) (fun s H C cl fp => pts_nil) (fun s H C cl fp => ?_) (fold_id h8)).imp fun σ H Q hq => pop_lc h11 h12 hq
    have gb := g.toGood.blk s H scope C cl fp
    exact pe_bm PySem.F.plainAttrs_list PySem.F.slot_list_pop PySem.F.type_list_pop mt_popAt (pe_var (gb.ix h2) (gb.vis h3) d1 d2) (pa_cons (ev_ok m FU _ _ k c gb h13).1 pa_nil (star1 h5)) rfl (by rw [star1 h5]; rfl) h6 (star1 h5) rfl
  | b :: w, e, h => by
    unfold chkPop at h
    split at h
    case h_2 => cases h
    rename_i x px e' pl
    simp only [Bool.and_eq_true] at h
    obtain ⟨⟨⟨⟨h1, h2⟩, h3⟩, h4⟩, h5⟩ := h
    have h1 : x = biName b := by simpa using h1
    subst h1
    have he := pe_popV g w e' h5
    obtain ⟨r, r1, r2⟩ := bi_ok (X := X) g.room g.calm b
    have key : PE X (.Call (.Name (biName b) px) (e' :: []) [] pl) (tCB r (tCons (tPop T X.K R a H0 i c tg it (own.map (·.2)) w) tNil)) := by
      have hv := biBoot b
      have hg := g.toGood.gl h2
      have hm := g.toGood.bt h3 (btV_bi b)
      have ha := pa_cons he pa_nil (star1 h4)
      cases b <;> first
        | exact pe_callB r1 hg hm hv ha (biN _) (biD _) (star1 h4) rfl
        | exact pe_callTy r1 hg hm hv ha (biN _) (biD _) (star1 h4) rfl
    refine key.imp fun σ H Q hq => ?_
    obtain ⟨O, env, S, its, S1, l, xs, l', S2, z, st, ei, eo, hlen, ep, ew, hz, q⟩ := hq
    simp only [wrapV, Option.bind_eq_some_iff] at ew
    obtain ⟨y, ew, eb⟩ := ew
    refine ⟨O, env, S, its, S1, l, xs, l', S2, y, st, ei, eo, hlen, ep, ew, wrapV_own ew, fun v H' st' ev' rv => ?_⟩
    exact r2 st'.fr st'.sr (.cons rv.toE .nil) eb fun u H2 k2 s2 ru => q u H2 (st'.step k2 s2) (ev'.trans (Ev.of k2)) (ru.rep hz)
theorem ps_popA {m j i tg : Nat} {w : List Bi} {b : Bi} {c : CE} {it : CI} {own : List (Str × Nat)} {y : Str} {py : Pos} {e : Expr} (g : GoodS T bts N sc X) (hi : (N[j]? == some y) = true) (hl : loc sc y = true) (h : chkPop bts N m sc i c tg it own (b :: w) e = true) :
    PS X (.Assign [.Name y py] e pos) (tS T X.K R a H0 (n + 1) (.pop (some j) (b :: w) i c tg it own)) := by
  have hs : ∀ l, swapsWith e (some (.Name y py)) l X.env = pure false := by
    intro l
    unfold chkPop at h
    split at h
    case h_2 => cases h
    rfl
  refine (ps_setPlain g hi hl hs (pe_popV (R := R) (a := a) (H0 := H0) g (b :: w) e h)).imp fun D σ H hq => ?_
  obtain ⟨O, env, S, fl, S', st, ev, po⟩ := hq
  simp only [evS, Option.bind_eq_some_iff] at ev
  obtain ⟨⟨its, S1⟩, e1, l, e2, ev⟩ := ev
  split at ev
  case isFalse => cases ev
  rename_i hlen
  simp only [Option.bind_eq_some_iff] at ev
  obtain ⟨⟨⟨xs, l'⟩, S2⟩, e3, z, e4, e5⟩ := ev
  split at e5
  · cases e5
  rename_i hz
  simp only [Option.some.injEq, Prod.mk.injEq] at e5
  obtain ⟨rfl, rfl⟩ := e5
  refine ⟨O, env, S, its, S1, l, xs, l', S2, z, st, e1, e2, by simpa using hlen, e3, e4, by simpa using hz, fun v H' st' ev' rv => ?_⟩
  exact po O _ H' ev' (st'.set rv j)
theorem ps_popR {m i tg : Nat} {w : List Bi} {c : CE} {it : CI} {own : List (Str × Nat)} {e : Expr} (g : GoodS T bts N sc X) (h : chkPop bts N m sc i c tg it own w e = true) :
    PS X (.Return (some e) pos) (tS T X.K R a H0 (n + 1) (.pop none w i c tg it own)) := by
  refine (ps_ret (pe_popV (R := R) (a := a) (H0 := H0) g w e h)).imp fun D σ H hq => ?_
  obtain ⟨O, env, S, fl, S', st, ev, po⟩ := hq
  simp only [evS, Option.bind_eq_some_iff] at ev
  obtain ⟨⟨its, S1⟩, e1, l, e2, ev⟩ := ev
  split at ev
  case isFalse => cases ev
  rename_i hlen
  simp only [Option.bind_eq_some_iff] at ev
  obtain ⟨⟨⟨xs, l'⟩, S2⟩, e3, z, e4, e5⟩ := ev
  split at e5
  · cases e5
  rename_i hz
  simp only [Option.some.injEq, Prod.mk.injEq] at e5
  obtain ⟨rfl, rfl⟩ := e5
  refine ⟨O, env, S, its, S1, l, xs, l', S2, z, st, e1, e2, by simpa using hlen, e3, e4, by simpa using hz, fun v H' st' ev' rv => ?_⟩
  exact po v H' st'.kp (st'.sr.mono fun _ => nO_le) (rv.mono (fun _ => nO_le) Keep.refl)
end
end Ws

/-! Ws15: ifs, loops, returns, blocks; a def by its body. -/
namespace Ws
open PySem PySem.Spec PyProof.Rows L2

section
variable {K : PySem.W.Frag} {R : Addr → Prop} {a : Addr} {H H' : Hp} {O O' : Addr → Prop}
mutual
theorem Rep.ev (v : Ev a O H O' H') (ho : ∀ b, O b → ∃ vs, H b = some (.lst vs)) : ∀ {u : V} {x : PV}, Rep K (nO R O) a H u x → Rep K (nO R O') a H' u x
  | _, _, .non => .non
  | _, _, .bl b => .bl b
  | _, _, .int i => .int i
  | _, _, .str s => .str s
  | _, _, .ty n => .ty n
  | _, _, .stm => .stm
  | _, _, .tup h n r => .tup (v.kp _ _ h n fun o => by obtain ⟨vs, e⟩ := ho _ o; rw [h] at e; cases e).1 n (Reps.ev v ho r)
  | _, _, .lst h n q r => .lst (v.kp _ _ h n q.2).1 n ⟨q.1, (v.kp _ _ h n q.2).2⟩ (Reps.ev v ho r)
theorem Reps.ev (v : Ev a O H O' H') (ho : ∀ b, O b → ∃ vs, H b = some (.lst vs)) : ∀ {u : List V} {x : List PV}, Reps K (nO R O) a H u x → Reps K (nO R O') a H' u x
  | _, _, .nil => .nil
  | _, _, .cons r rs => .cons (Rep.ev v ho r) (Reps.ev v ho rs)
end
end

section
variable {T : Tbl} {bts N : List Str} {sc : Scope} {X : Cx} {n : Nat} {R : Addr → Prop} {a : Addr} {H0 : Hp} {e k : Expr} {c d : CE} {pos : Pos}
theorem ps_ifeV {m : Nat} {A B : List Stmt} {la lb : List CS} (g : GoodS T bts N sc X) (hc : chkE bts N m sc e c = true) (ha : PSs X A (tSs T X.K R a H0 n la)) (hb : PSs X B (tSs T X.K R a H0 n lb)) : PS X (.If e A B pos) (tS T X.K R a H0 (n + 1) (.ife c la lb)) := by
  refine (ps_if (ev_ok m FU sc X e c g.toGood hc).2 ha hb).imp fun D σ H h => ?_
  obtain ⟨O, env, S, fl, S', st, ev, po⟩ := h
  simp only [evS, Option.bind_eq_some_iff] at ev
  obtain ⟨⟨x, S1⟩, e1, b, e2, e3⟩ := ev
  refine ⟨_, a, env, S, x, S1, b, st.at, e1, e2, fun H' k s => ?_⟩
  cases b with
  | true =>
    rw [if_pos rfl] at e3
    exact iteT ⟨O, env, S1, fl, S', st.step k s, e3, po.from (Ev.of k)⟩
  | false =>
    rw [if_neg (by decide)] at e3
    exact iteF ⟨O, env, S1, fl, S', st.step k s, e3, po.from (Ev.of k)⟩
theorem ps_retV {m : Nat} (g : GoodS T bts N sc X) (hc : chkE bts N m sc e c = true) : PS X (.Return (some e) pos) (tS T X.K R a H0 (n + 1) (.ret c)) := by
  refine (ps_ret (ev_ok m FU sc X e c g.toGood hc).1).imp fun D σ H h => ?_
  obtain ⟨O, env, S, fl, S', st, ev, po⟩ := h
  simp only [evS, Option.bind_eq_some_iff] at ev
  obtain ⟨⟨x, S1⟩, e1, e2⟩ := ev
  split at e2
  · cases e2
  rename_i hx
  simp only [Option.some.injEq, Prod.mk.injEq] at e2
  obtain ⟨rfl, rfl⟩ := e2
  exact ⟨_, a, env, S, x, S1, st.at, e1, fun v H' k s r => po v H' (st.kp.trans k) (s.mono fun _ => nO_le) ((r.rep (by simpa using hx)).mono (fun _ => nO_le) Keep.refl)⟩
theorem ps_retNV : PS X (.Return none pos) (tS T X.K R a H0 (n + 1) (.ret .non)) := by
  refine ps_retN.imp fun D σ H h => ?_
  obtain ⟨O, env, S, fl, S', st, ev, po⟩ := h
  simp only [evS, evE, Option.bind_some, PV.isOwn, Option.some.injEq, Prod.mk.injEq] at ev
  obtain ⟨rfl, rfl⟩ := ev
  exact po _ H st.kp (st.sr.mono fun _ => nO_le) .non
theorem ps_retOV {i : Nat} {y : Str} {py : Pos} (g : GoodS T bts N sc X) (hi : (N[i]? == some y) = true) (hv : vis sc y = true) (hd : okName y = true) : PS X (.Return (some (.Name y py)) pos) (tS T X.K R a H0 (n + 1) (.retO i)) := by
  obtain ⟨d1, d2⟩ := okN hd
  refine (ps_ret (pe_var (g.ix hi) (g.toGood.vis hv) d1 d2)).imp fun D σ H h => ?_
  obtain ⟨O, env, S, fl, S', st, ev, po⟩ := h
  simp only [evS, Option.map_eq_some_iff, Prod.mk.injEq] at ev
  obtain ⟨l, e1, rfl, rfl⟩ := ev
  obtain ⟨p, vs, h1, h2, h3, h4, h5⟩ := st.own (own_at e1)
  exact ⟨_, h1, po _ H st.kp (st.sr.mono fun _ => nO_le) (.lst h3 h4 (st.f0.fc p (st.ow p h2).2.1) (h5.mono (fun _ => nO_le) Keep.refl))⟩
theorem ps_expV {m : Nat} (g : GoodS T bts N sc X) (hc : chkE bts N m sc e c = true) (hn : noComp e = true) : PS X (.Expr e pos) (tS T X.K R a H0 (n + 1) (.exp c)) := by
  refine (ps_expr (ev_ok m FU sc X e c g.toGood hc).1 (sw_no hn)).imp fun D σ H h => ?_
  obtain ⟨O, env, S, fl, S', st, ev, po⟩ := h
  simp only [evS, Option.map_eq_some_iff, Prod.mk.injEq] at ev
  obtain ⟨⟨x, S1⟩, e1, rfl, rfl⟩ := ev
  exact ⟨_, a, env, S, x, S1, st.at, e1, fun v H' k s r => po O σ H' (Ev.of k) (st.step k s)⟩
theorem ps_stopV {st : Stmt} : PS X st (tS T X.K R a H0 (n + 1) .stop) := ⟨fun _ _ _ _ _ _ h => by
  obtain ⟨_, _, _, _, _, _, ev, _⟩ := h
  simp [evS] at ev⟩
theorem ps_passV : PS X (.Pass pos) (tS T X.K R a H0 (n + 1) .pass) := ps_pass.imp fun D σ H h => by
  obtain ⟨O, env, S, fl, S', st, ev, po⟩ := h
  simp only [evS, Option.some.injEq, Prod.mk.injEq] at ev
  obtain ⟨rfl, rfl⟩ := ev
  exact po O σ H Ev.refl st
theorem ps_zero {st : Stmt} {c : CS} : PS X st (tS T X.K R a H0 0 c) := ⟨fun _ _ _ _ _ _ h => by
  obtain ⟨_, _, _, _, _, _, ev, _⟩ := h
  simp [evS] at ev⟩
/-- name += e, ints -/
theorem ps_augV {i m : Nat} {y : Str} {py : Pos} {o : BOp} (g : GoodS T bts N sc X) (hi : (N[i]? == some y) = true) (hl : loc sc y = true) (hc : chkE bts N m sc e c = true) (ho : o = .add ∨ o = .sub) : PS X (.AugAssign (.Name y py) (opOf o) e pos) (tS T X.K R a H0 (n + 1) (.aug i o c)) := by
  have he := (ev_ok m FU sc X e c g.toGood hc).1
  have key : ∀ (ti : TIp) (f : Int → Int → Int), PIp X (opOf o) ti → (ti = ipI f) → (∀ (u w : Int) (env : Env) (S : Strm) (x : PV) (S1 : Strm) fl S', (match o, x with | .add, .int y => some (Fl.nx (env.set i (some (.int (u + y)))), S1) | .sub, .int y => some (Fl.nx (env.set i (some (.int (u - y)))), S1) | _, _ => none) = some (fl, S') → ∃ w, x = .int w ∧ fl = .nx (env.set i (some (.int (f u w)))) ∧ S' = S1) → PS X (.AugAssign (.Name y py) (opOf o) e pos) (tS T X.K R a H0 (n + 1) (.aug i o c)) := by
    intro ti f hp hti hm
    refine (ps_aug (by rw [g.hN]; exact g.nd) (g.ix hi) (g.toGood.loc hl) he hp (.inl (g.fn _))).imp fun D σ H h => ?_
    obtain ⟨O, env, S, fl, S', st, ev, po⟩ := h
    simp only [evS] at ev
    split at ev
    case h_2 => cases ev
    rename_i u hu
    simp only [Option.bind_eq_some_iff] at ev
    obtain ⟨⟨x, S1⟩, e1, e2⟩ := ev
    obtain ⟨w, rfl, rfl, rfl⟩ := hm u 0 env S x S1 fl S' e2
    obtain ⟨v, h1, h2⟩ := st.en.get i _ hu
    have h2 := h2.int
    subst h2
    refine ⟨_, h1, _, a, env, S, _, _, st.at, e1, fun v' H' k s r => ?_⟩
    rw [hti]
    exact ⟨u, w, rfl, r.int, po _ _ _ (Ev.of k) ((st.step k s).set (.int _) i)⟩
  rcases ho with rfl | rfl
  · refine key _ (fun i j => i + j) ip_add rfl fun u w env S x S1 fl S' h => ?_
    cases x <;> simp at h
    obtain ⟨rfl, rfl⟩ := h
    exact ⟨_, rfl, rfl, rfl⟩
  · refine key _ (fun i j => i - j) ip_sub rfl fun u w env S x S1 fl S' h => ?_
    cases x <;> simp at h
    obtain ⟨rfl, rfl⟩ := h
    exact ⟨_, rfl, rfl, rfl⟩
theorem forL_step {step : PV → Env → Strm → Option (Fl × Strm)} {l : List PV} {env : Env} {S S2 : Strm} {fl : Fl} {x : PV} {i : Nat} (h : forL step (l.drop i) env S = some (fl, S2)) (hx : l[i]? = some x) :
    ∃ r S1, step x env S = some (r, S1) ∧ (match r with | .nx env' => forL step (l.drop (i + 1)) env' S1 = some (fl, S2) | .rt v => fl = .rt v ∧ S2 = S1) := by
  obtain ⟨hi, e⟩ := List.getElem?_eq_some_iff.mp hx
  have ed : l.drop i = x :: l.drop (i + 1) := by rw [List.drop_eq_getElem_cons hi, e]
  rw [ed] at h
  simp only [forL, Option.bind_eq_some_iff] at h
  obtain ⟨⟨r, S1⟩, h1, h2⟩ := h
  refine ⟨r, S1, h1, ?_⟩
  cases r with
  | nx env' => exact h2
  | rt v =>
    simp only [Option.some.injEq, Prod.mk.injEq] at h2
    exact ⟨h2.1.symm, h2.2.symm⟩
theorem ps_forV {m : Nat} {tg it : Expr} {body : List Stmt} {t : Tg} {it' : CI} {b : List CS} (g : GoodS T bts N sc X) (ht : chkTg N sc tg t = true) (hi : chkI bts (chkE bts N m sc) sc tg it it' = true) (hs : notSet it = true) (hb : PSs X body (tSs T X.K R a H0 n b)) :
    PS X (.For tg it body [] pos) (tS T X.K R a H0 (n + 1) (.for_ t it' b)) := by
  have ihP : ∀ e c, chkE bts N m sc e c = true → PE X e (tV T X.K FU c) := fun e c h => (ev_ok m FU sc X e c g.toGood h).1
  refine (ps_for g.pass g.calm (chkI_ev (ok := false) g.toGood ihP hi) (pg_ev g.calm g.sto ht) hb (fold_id hs)).imp fun D σ H h => ?_
  obtain ⟨O, env, S, fl, S', st, ev, po⟩ := h
  simp only [evS, Option.bind_eq_some_iff] at ev
  obtain ⟨⟨its, S1⟩, e1, e2⟩ := ev
  refine ⟨_, a, env, S, its, S1, st.at, e1, fun J H1 k1 s1 io => ?_⟩
  have st1 := st.step k1 s1
  obtain ⟨G, Y, wk, hG, hY⟩ := io.walk
  have ho : ∀ b, O b → ∃ vs, H1 b = some (.lst vs) := fun b o => (st1.ow b o).1
  refine for_it wk (fun i σ' H' => ∃ O' env' Si, StR X.K R a H0 O' σ' H' env' Si ∧ Ev a O H1 O' H' ∧ forL (fun x env S => (bindT t x env).bind fun e1 => seqL (fun c env S => evS T n c env S) b e1 S) (its.drop i) env' Si = some (fl, S')) ?_ ?_ ?_ ?_
  · exact ⟨O, env, S1, st1, Ev.refl, e2⟩
  · rintro i σ' H' hi ⟨O', env', Si, st', v', f'⟩
    refine hG H' fun b o e nb hh => (v'.kp b o e nb ?_).1
    rcases hh with hh | hh | ⟨vs, rfl⟩
    · cases hh
    · exact hh.2
    · intro o'
      obtain ⟨ws, e'⟩ := ho b o'
      rw [e] at e'
      cases e'
  · rintro i x σ' H' H'' hi ⟨O', env', Si, st', v', f'⟩ y'
    obtain ⟨nw, y, hy, ry⟩ := hY (nO R O') H' st'.fr (fun vs xs r => r.ev v' ho) i x H'' hi y'
    obtain ⟨r, S2, hst, hr⟩ := forL_step f' hy
    simp only [Option.bind_eq_some_iff] at hst
    obtain ⟨env1, hb1, hsq⟩ := hst
    have st2 := st'.step nw.keep (nw.srel st'.sr)
    refine st2.bind ry.toE hb1 fun σ2 st3 => ⟨O', env1, Si, r, S2, st3, hsq, ?_⟩
    cases r with
    | nx env2 => exact fun O3 σ3 H3 v3 st4 => ⟨O3, env2, S2, st4, (v'.trans (Ev.of nw.keep)).trans v3, hr⟩
    | rt v =>
      obtain ⟨rfl, rfl⟩ := hr
      exact po
  · rintro σ' H' ⟨O', env', Si, st', v', f'⟩
    rw [List.drop_length] at f'
    simp only [forL, Option.some.injEq, Prod.mk.injEq] at f'
    obtain ⟨rfl, rfl⟩ := f'
    exact po O' σ' H' ((Ev.of k1).trans v') st'
/-- blocks -/
theorem pss_nilV : PSs X [] (tSs T X.K R a H0 n []) := pss_nil.imp fun D σ H h => by
  obtain ⟨O, env, S, fl, S', st, ev, po⟩ := h
  simp only [seqL, Option.some.injEq, Prod.mk.injEq] at ev
  obtain ⟨rfl, rfl⟩ := ev
  exact po O σ H Ev.refl st
theorem pss_consV {s : Stmt} {ss : List Stmt} {c : CS} {cs : List CS} (h1 : PS X s (tS T X.K R a H0 n c)) (h2 : PSs X ss (tSs T X.K R a H0 n cs)) : PSs X (s :: ss) (tSs T X.K R a H0 n (c :: cs)) := by
  refine (pss_cons h1 h2).imp fun D σ H h => ?_
  obtain ⟨O, env, S, fl, S', st, ev, po⟩ := h
  simp only [seqL, Option.bind_eq_some_iff] at ev
  obtain ⟨⟨r, S1⟩, e1, e2⟩ := ev
  refine ⟨O, env, S, r, S1, st, e1, ?_⟩
  cases r with
  | nx env' => exact fun O' σ' H' v st' => ⟨O', env', S1, fl, S', st', e2, po.from v⟩
  | rt v =>
    simp only [Option.some.injEq, Prod.mk.injEq] at e2
    obtain ⟨rfl, rfl⟩ := e2
    exact po
theorem pss_frzV {ss : List Stmt} {i : Nat} {cs : List CS} (h2 : PSs X ss (tSs T X.K R a H0 (n + 1) cs)) : PSs X ss (tSs T X.K R a H0 (n + 1) (.frz i :: cs)) := by
  refine h2.imp fun D σ H h => ?_
  obtain ⟨O, env, S, fl, S', st, ev, po⟩ := h
  simp only [seqL, evS, Option.bind_eq_some_iff, Option.map_eq_some_iff] at ev
  obtain ⟨⟨r, S1⟩, ⟨l, e1, e2⟩, e3⟩ := ev
  simp only [Prod.mk.injEq] at e2
  obtain ⟨rfl, rfl⟩ := e2
  obtain ⟨O', st', le⟩ := st.frz (own_at e1)
  exact ⟨O', _, _, fl, S', st', e3, po.from ⟨fun b o h n q => ⟨h, fun z => q (le b z)⟩⟩⟩
end

/-! ### the check of a block -/
section
variable (bts N : List Str) (sc : Scope)
def chkB : Nat → List Stmt → List CS → Bool
  | 0, _, _ => false
  | m + 1, ss, cs =>
    match ss, cs with
    | ss, .frz _ :: cs => chkB m ss cs
    | [], [] => true
    | s :: ss, c :: cs => (match s, c with
      | _, .stop => true
      | .Pass _, .pass => true
      | .Assign [.Name y _] e _, .asg (.nm i) c => (N[i]? == some y) && loc sc y && chkE bts N (m + 1) sc e c && notC2 c
      | .Assign [.Tuple [.Name x px, .Name y py] _ _] (.Tuple [u, v] _ _) _, .par i j cu cv => (N[i]? == some x) && (N[j]? == some y) && !(i == j) && swapOk sc x y px py [u, v] && chkE bts N m sc u cu && chkE bts N m sc v cv
      | .Assign [.Tuple es k tp] (.Tuple vs k2 p2) _, .asg (.tp l) c => chkTg N sc (.Tuple es k tp) (.tp l) && chkE bts N m sc (.Tuple vs k2 p2) c && swapNo sc es
      | .Assign [.Tuple es k tp] e _, .asg (.tp l) c => chkTg N sc (.Tuple es k tp) (.tp l) && chkE bts N m sc e c && notTupE e
      | .Assign [.Name y _] e _, .asgO i c => (N[i]? == some y) && loc sc y && chkE bts N (m + 1) sc e c && noBool e
      | .Expr (.Call (.Attribute (.Name y _) f ap) [e] [] p) _, .app i c => (f == ("append" : Str)) && (N[i]? == some y) && vis sc y && okName y && chkE bts N m sc e c && notStar e && (ap.endLine == p.line)
      | .Assign [.Subscript (.Name y _) k _] e _, .setI i d c => (N[i]? == some y) && vis sc y && okName y && chkE bts N m sc e c && chkE bts N m sc k d && noComp e && notSlice k
      | .Assign [.Subscript (.Name y _) (.Constant (.int j) _ _) _] e _, .sset i j' c => (j == j') && (N[i]? == some y) && vis sc y && okName y && chkE bts N m sc e c && noComp e
      | .Expr (.Call (.Attribute (.Call (.Name f _) (y :: es) [] _) at' ap) [e] [] p) _, .drop f' l c => (f == f') && (at' == ("append" : Str)) && gl sc f && okName f && chkL (chkE bts N m sc) (y :: es) l && chkE bts N m sc e c && notStar e && (ap.endLine == p.line)
      | .AugAssign (.Subscript (.Name y _) k _) .Add e _, .augI i d c => (N[i]? == some y) && vis sc y && okName y && chkE bts N m sc e c && chkE bts N m sc k d && notSlice k
      | .AugAssign (.Name y _) o e _, .aug i o' c => (o == opOf o') && (o' == .add || o' == .sub) && (N[i]? == some y) && loc sc y && chkE bts N m sc e c
      | .If e A B _, .ife c la lb => chkE bts N m sc e c && chkB m A la && chkB m B lb
      | .For tg it body [] _, .for_ t it' b => chkTg N sc tg t && chkI bts (chkE bts N m sc) sc tg it it' && notSet it && chkB m body b
      | .Return none _, .ret .non => true
      | .Return (some e) _, .ret c => chkE bts N m sc e c
      | .Return (some (.Name y _)) _, .retO i => (N[i]? == some y) && vis sc y && okName y
      | .Expr e _, .exp c => chkE bts N m sc e c && noComp e
      | .Assign [.Name y _] e _, .pop (some j) (b :: w) i c tg it own => (N[j]? == some y) && loc sc y && chkPop bts N m sc i c tg it own (b :: w) e
      | .Return (some e) _, .pop none w i c tg it own => chkPop bts N m sc i c tg it own w e
      | _, _ => false) && chkB m ss cs
    | _, _ => false
end
theorem blk_ok {T : Tbl} {bts N : List Str} {sc : Scope} {X : Cx} {R : Addr → Prop} {a : Addr} {H0 : Hp} (g : GoodS T bts N sc X) : ∀ (m n : Nat) (ss : List Stmt) (cs : List CS), chkB bts N sc m ss cs = true → PSs X ss (tSs T X.K R a H0 n cs)
  | 0, n, ss, cs, h => by simp [chkB] at h
  | m + 1, 0, ss, cs, h => by
    cases cs with
    | nil =>
      cases ss with
      | nil => exact pss_nilV
      | cons s ss => simp [chkB] at h
    | cons c cs => exact ⟨fun _ _ _ _ _ _ h => by
        obtain ⟨_, _, _, _, _, _, ev, _⟩ := h
        simp [seqL, evS] at ev⟩
  | m + 1, n + 1, ss, cs, h => by
    unfold chkB at h
    split at h
    · exact pss_frzV (blk_ok g m (n + 1) _ _ h)
    · exact pss_nilV
    · rw [Bool.and_eq_true] at h
      refine pss_consV ?_ (blk_ok g m (n + 1) _ _ h.2)
      have h := h.1
      split at h
      · exact ps_stopV
      · exact ps_passV
      · simp only [Bool.and_eq_true] at h
        exact ps_asgN g h.1.1.1 h.1.1.2 h.1.2 h.2
      · simp only [Bool.and_eq_true, Bool.not_eq_true'] at h
        obtain ⟨⟨⟨⟨⟨h1, h2⟩, h3⟩, h4⟩, h5⟩, h6⟩ := h
        exact ps_parV g h1 h2 h3 h4 h5 h6
      · simp only [Bool.and_eq_true] at h
        exact ps_asgP g h.1.1 h.1.2 h.2
      · simp only [Bool.and_eq_true] at h
        exact ps_asgT g h.1.1 h.1.2 h.2
      · simp only [Bool.and_eq_true] at h
        exact ps_asgO g h.1.1.1 h.1.1.2 h.1.2 h.2
      · simp only [Bool.and_eq_true, beq_iff_eq] at h
        obtain ⟨⟨⟨⟨⟨⟨rfl, h1⟩, h2⟩, h3⟩, h4⟩, h5⟩, h6⟩ := h
        exact ps_appV g (by simpa using h1) h2 h3 h4 h5 (by simpa using h6)
      · simp only [Bool.and_eq_true] at h
        obtain ⟨⟨⟨⟨⟨⟨h1, h2⟩, h3⟩, h4⟩, h5⟩, h6⟩, h7⟩ := h
        exact ps_setIV g h1 h2 h3 h4 h5 h6 h7
      · simp only [Bool.and_eq_true, beq_iff_eq] at h
        obtain ⟨⟨⟨⟨⟨rfl, h1⟩, h2⟩, h3⟩, h4⟩, h5⟩ := h
        exact ps_ssetV g (by simpa using h1) h2 h3 h4 h5
      · simp only [Bool.and_eq_true, beq_iff_eq] at h
        obtain ⟨⟨⟨⟨⟨⟨⟨rfl, rfl⟩, h1⟩, h2⟩, h3⟩, h4⟩, h5⟩, h6⟩ := h
        exact ps_dropV g h1 h2 h3 h4 h5 (by simpa using h6)
      · simp only [Bool.and_eq_true] at h
        obtain ⟨⟨⟨⟨⟨h1, h2⟩, h3⟩, h4⟩, h5⟩, h6⟩ := h
        exact ps_augIV g h1 h2 h3 h4 h5 h6
      · simp only [Bool.and_eq_true, beq_iff_eq, Bool.or_eq_true] at h
        obtain ⟨⟨⟨⟨rfl, h1⟩, h2⟩, h3⟩, h4⟩ := h
        exact ps_augV g (by simpa using h2) h3 h4 h1
      · simp only [Bool.and_eq_true] at h
        exact ps_ifeV g h.1.1 (blk_ok g m n _ _ h.1.2) (blk_ok g m n _ _ h.2)
      · simp only [Bool.and_eq_true] at h
        exact ps_forV g h.1.1.1 h.1.1.2 h.1.2 (blk_ok g m n _ _ h.2)
      · exact ps_retNV
      · exact ps_retV g h
      · simp only [Bool.and_eq_true] at h
        exact ps_retOV g h.1.1 h.1.2 h.2
      · simp only [Bool.and_eq_true] at h
        exact ps_expV g h.1 h.2
      · simp only [Bool.and_eq_true] at h
        exact ps_popA g h.1.1 h.1.2 h.2
      · exact ps_popR g h
      · cases h
    · cases h
end Ws

/-! Ws16: a def of the text keeps its promise; tables of defs. -/
namespace Ws
open PySem PySem.Spec PyProof.Rows L2

section
variable {P : Program} {w : World} {K : PySem.W.Frag} {mg : Str → Option Value} {base : Heap}
/-- what the top holds -/
structure TOk (P : Program) (w : World) (K : PySem.W.Frag) (mg : Str → Option Value) (base : Heap) (T : Tbl) (bts : List Str) (k : Nat) : Prop where
  fns : ∀ f φ, T.fn f = some φ → ∃ p fd ps j cx, ps.length = φ.1 ∧ mg f = some (.ref p) ∧ PySem.W.keepIn K (.ref p) = true ∧ Binds K fd ps [] ∧ FnOk P w K mg base cx j p fd ps (spF K φ.1 φ.2) ∧ j ≤ k ∧ ∀ Y : Cx, Y.prog = P → Y.w = w → Passes cx Y E0
  glo : ∀ x i, T.glo x = some i → ∃ t, mg x = some (.int i t)
  bts : ∀ b ∈ bts, mg b = btV b
theorem TOk.le {T : Tbl} {bts : List Str} {k k' : Nat} (t : TOk P w K mg base T bts k) (h : k ≤ k') : TOk P w K mg base T bts k' :=
  ⟨fun f φ e => let ⟨p, fd, ps, j, cx, h0, h1, h2, h3, h4, h5, h6⟩ := t.fns f φ e; ⟨p, fd, ps, j, cx, h0, h1, h2, h3, h4, Nat.le_trans h5 h, h6⟩, t.glo, t.bts⟩
def Tbl.add (T : Tbl) (f : Str) (n : Nat) (φ : Fn) : Tbl := { T with fn := fun x => if x = f then some (n, φ) else T.fn x }
theorem TOk.add {T : Tbl} {bts : List Str} {k : Nat} (t : TOk P w K mg base T bts k) {f : Str} {n : Nat} {φ : Fn} {p : Addr} {fd : FuncData} {ps : List Str} (hl : ps.length = n) (hm : mg f = some (.ref p)) (hk : PySem.W.keepIn K (.ref p) = true) (hb : Binds K fd ps []) (F : FnOk P w K mg base CX0 k p fd ps (spF K n φ)) :
    TOk P w K mg base (T.add f n φ) bts k := by
  refine ⟨fun g ψ e => ?_, t.glo, t.bts⟩
  unfold Tbl.add at e
  dsimp only at e
  split at e
  · rename_i h
    subst h
    simp only [Option.some.injEq] at e
    subst e
    exact ⟨p, fd, ps, k, CX0, hl, hm, hk, hb, F, Nat.le_refl _, fun Y _ _ => pass0⟩
  · exact t.fns g ψ e
/-- the values at the entry -/
theorem start_env {R : Addr → Prop} {a : Addr} {H : Hp} {N : List Str} {vs : List V} {xs : List PV} (r : Reps K R a H vs xs) : EnvE K R a H (L2.start N vs) (xs.map some ++ List.replicate (N.length - xs.length) none) := by
  have hl := r.length
  refine ⟨by unfold L2.start; simp [hl], fun i x h => ?_⟩
  by_cases hi : i < xs.length
  · rw [List.getElem?_append_left (by simpa using hi), List.getElem?_map] at h
    cases e : xs[i]? with
    | none => rw [e] at h; cases h
    | some y =>
      rw [e] at h
      simp only [Option.map_some, Option.some.injEq] at h
      subst h
      obtain ⟨v, h1, h2⟩ := r.get e
      refine ⟨v, ?_, h2.toE⟩
      unfold L2.start
      rw [List.getElem?_append_left (by simpa [hl] using hi), List.getElem?_map, h1]
      rfl
  · rw [List.getElem?_append_right (by simpa using hi), List.getElem?_replicate] at h
    split at h <;> cases h
theorem start_own {N : List Str} {xs : List PV} (ho : xs.all (fun x => !x.isOwn) = true) {i : Nat} {l : List PV} (h : (xs.map some ++ List.replicate (N.length - xs.length) none)[i]? = some (some (PV.own l))) : False := by
  by_cases hi : i < xs.length
  · rw [List.getElem?_append_left (by simpa using hi), List.getElem?_map] at h
    cases e : xs[i]? with
    | none => rw [e] at h; cases h
    | some y =>
      rw [e] at h
      simp only [Option.map_some, Option.some.injEq] at h
      subst h
      have := List.all_eq_true.mp ho _ (List.mem_of_getElem? e)
      simp [PV.isOwn] at this
  · rw [List.getElem?_append_right (by simpa using hi), List.getElem?_replicate] at h
    split at h <;> cases h
theorem Reps.noOwn {R : Addr → Prop} {a : Addr} {H : Hp} : ∀ {vs : List V} {xs : List PV}, Reps K R a H vs xs → xs.all (fun x => !x.isOwn) = true
  | _, _, .nil => rfl
  | _, _, .cons r t => by rw [List.all_cons, r.noOwn, Reps.noOwn t]; rfl
theorem good_def {T : Tbl} {bts N : List Str} {k : Nat} {ps : List Str} {qual : Str} {sc : Scope} {f : Addr} {cdv : Value} {A : Around} {outer : List PySem.Env} {s : Shared} {H : Hp} {E : XK} (t : TOk P w K mg base T bts k) (S : FnScope N ps sc)
    (hr : Room k (A.deeper (envOfC qual sc s.heap.objs.size f cdv))) : GoodS T bts N sc (cxOf CX0 P w K mg base N qual sc f cdv A outer s H E).nox where
  hN := rfl
  hs := rfl
  calm := rfl
  nd := S.nd
  room := hr.mono (Nat.zero_le _)
  fns := fun f φ e => let ⟨p, fd, ps, j, cx, h0, h1, h2, h3, h4, h5, h6⟩ := t.fns f φ e; ⟨⟨p, fd, ps, j, cx, h0, h1, h2, h3, h4, hr.mono h5, h6⟩⟩
  glo := t.glo
  bts := t.bts
  kind := S.kind
  fn := fun _ => rfl
  pass := PassesOwn.never
/-- THE RULE: a def by its text in short -/
theorem def_ok {T : Tbl} {bts N ps : List Str} {k m : Nat} {x qual : Str} {st : Stmt} {f : Addr} {fd : FuncData} {cs : List CS} (t : TOk P w K mg base T bts k) (F : Fun K x qual st f fd) (S : FnScope N ps (defScope st)) (hc : chkB bts N (defScope st) m (defBody st) cs = true) :
    FnOk P w K mg base CX0 (k + 1) f fd ps (spF K ps.length (evF T N.length cs)) := by
  refine F.ok S (fun vs H Q E h => ?_) (fun cdv A outer s H vs Q E hr h => ?_)
  · obtain ⟨R, a, xs, S, r, S', f0, rs, sr, hl, _⟩ := h
    rw [rs.length]; exact hl
  · obtain ⟨R, a, xs, S0, r, S', f0, rs, sr, hl, ev, q⟩ := h
    have g := good_def (E := E) (H := H) (outer := outer) t S hr
    refine ⟨_, blk_ok (R := R) (a := a) (H0 := H) g m FU _ _ hc, ?_⟩
    simp only [evF, Option.map_eq_some_iff] at ev
    obtain ⟨⟨fl, S1⟩, e1, e2⟩ := ev
    have ho := rs.noOwn
    refine ⟨fun _ => False, _, S0, fl, S1, ⟨f0, Keep.refl, fun b h => h.elim, (start_env (rs.mono (fun b h => ⟨h, fun z => z⟩) Keep.refl)), fun i xs h => (start_own ho h).elim, fun i j xs ys h => (start_own ho h).elim, sr.mono fun b h => ⟨h, fun z => z⟩⟩, e1, ?_⟩
    cases fl with
    | nx env' =>
      simp only [Prod.mk.injEq] at e2
      obtain ⟨rfl, rfl⟩ := e2
      exact fun O' σ' H' v st' => q .non H' st'.kp (st'.sr.mono fun _ => nO_le) .non
    | rt x =>
      simp only [Prod.mk.injEq] at e2
      obtain ⟨rfl, rfl⟩ := e2
      exact fun v H' k s r => q v H' k s r
/-- a plainer word for it -/
theorem spF_le {n : Nat} {φ ψ : Fn} (h : ∀ xs S r, xs.length = n → ψ xs S = some r → φ xs S = some r) : ∀ vs H Q E, spF K n ψ vs H Q E → spF K n φ vs H Q E := fun vs H Q E ⟨R, a, xs, S, r, S', f0, rs, sr, hl, ev, q⟩ => ⟨R, a, xs, S, r, S', f0, rs, sr, hl, h xs S _ hl ev, q⟩
theorem def_is {T : Tbl} {bts N ps : List Str} {k m : Nat} {x qual : Str} {st : Stmt} {f : Addr} {fd : FuncData} {cs : List CS} {φ : Fn} (t : TOk P w K mg base T bts k) (F : Fun K x qual st f fd) (S : FnScope N ps (defScope st)) (hc : chkB bts N (defScope st) m (defBody st) cs = true)
    (h : ∀ xs S r, xs.length = ps.length → φ xs S = some r → evF T N.length cs xs S = some r) : FnOk P w K mg base CX0 (k + 1) f fd ps (spF K ps.length φ) := (def_ok t F S hc).imp (spF_le h)
end
end Ws

/-! Ws17: the stream is made; a law's own def. -/
namespace Ws
open PySem PySem.Spec PyProof.Rows L2

/-- [list(script), 0, 0] -/
def spStream (K : PySem.W.Frag) : Sp := fun vs H Q _ => ∃ (s : Addr) (ns : List Int), vs = [.ref s] ∧ SqL K H s (ns.map V.int) ∧ ∀ q p, H q = none → upd H q (.lst (ns.map V.int)) p = none → Q (.ref p) (upd (upd H q (.lst (ns.map V.int))) p (.lst [.ref q, .int 0, .int 0]))
def spLaw (K : PySem.W.Frag) : Sp := fun vs H Q _ => ∃ (a : Addr) (ns : List Int), vs = [.ref a] ∧ SqL K H a (ns.map V.int) ∧ ns.length ≤ 63 ∧ ∀ H', Q (.bl true) H'
section
variable {P : Program} {w : World} {K : PySem.W.Frag} {mg : Str → Option Value} {base : Heap}
theorem stream_ok {qual : Str} {st : Stmt} {f : Addr} {fd : FuncData} {p1 p2 p3 p4 p5 p6 p7 : Pos} {k1 k2 : Nat} (F : Fun K "_law_stream" qual st f fd) (S : FnScope ["script"] ["script"] (defScope st)) (hm : mg "list" = none) (hg : (defScope st).names.lookup ("list" : Str) = some .globalImplicit) (hs : (defScope st).names.lookup ("script" : Str) = some .local)
    (hb : defBody st = [.Return (some (.List [.Call (.Name "list" p1) [.Name "script" p2] [] p3, .Constant (.int 0) k1 p4, .Constant (.int 0) k2 p5] p6)) p7]) : FnOk P w K mg base CX0 1 f fd ["script"] (spStream K) := by
  refine F.ok S (fun vs H Q E h => ?_) (fun cdv A outer s H vs Q E hr h => ?_)
  · obtain ⟨p, ns, rfl, _⟩ := h
    rfl
  · obtain ⟨p, ns, rfl, h1, q⟩ := h
    rw [hb]
    refine ⟨_, pss_one (ps_ret (pe_lst (pa_cons (pe_callTy call_list_of hg hm (biBoot .list) (pa_cons (pe_var (i := 0) rfl (.inl hs)) pa_nil)) (pa_cons pe_int (pa_cons pe_int pa_nil))))), ?_⟩
    refine ⟨_, rfl, p, _, rfl, .inl h1, fun l hl => ⟨by show 3 ≤ sizeLine; decide, fun r hr => q l r hl hr⟩⟩
/-- what the law's rest is worth, from a fresh stream -/
def RestOk (T : Tbl) (n : Nat) (cs : List CS) : Prop := ∀ scr : List Int, scr.length ≤ 63 → ∃ S', seqL (fun c env S => evS T FU c env S) cs (none :: some .stm :: List.replicate n none) (some (scr, 0, 0)) = some (.rt (.bl true), S')
theorem law_ok {T : Tbl} {bts N0 : List Str} {k m : Nat} {qual : Str} {st : Stmt} {f fS : Addr} {fd fdS : FuncData} {cs : List CS} {rest : List Stmt} {p1 p2 p3 p4 p5 : Pos} (t : TOk P w K mg base T bts k) (F : Fun K "law" qual st f fd) (S : FnScope ("script" :: "stream" :: N0) ["script"] (defScope st))
    (FS : FnOk P w K mg base CX0 1 fS fdS ["script"] (spStream K)) (bS : Binds K fdS ["script"] []) (mS : mg "_law_stream" = some (.ref fS)) (kS : PySem.W.keepIn K (.ref fS) = true) (hk : 1 ≤ k)
    (hg : (defScope st).names.lookup ("_law_stream" : Str) = some .globalImplicit) (hs : (defScope st).names.lookup ("script" : Str) = some .local) (hst : loc (defScope st) "stream" = true)
    (hb : defBody st = .Assign [.Name "stream" p1] (.Call (.Name "_law_stream" p2) [.Name "script" p3] [] p4) p5 :: rest) (hc : chkB bts ("script" :: "stream" :: N0) (defScope st) m rest cs = true) (hR : RestOk T N0.length cs) :
    FnOk P w K mg base CX0 (k + 1) f fd ["script"] (spLaw K) := by
  refine F.ok S (fun vs H Q E h => ?_) (fun cdv A outer s H vs Q E hr h => ?_)
  · obtain ⟨p, ns, rfl, _⟩ := h
    rfl
  · obtain ⟨p, ns, rfl, h1, hl, q⟩ := h
    have g := good_def (E := E) (H := H) (outer := outer) t S hr
    obtain ⟨S', hS'⟩ := hR ns hl
    have first : PS (cxOf CX0 P w K mg base ("script" :: "stream" :: N0) qual (defScope st) f cdv A outer s H E).nox (.Assign [.Name "stream" p1] (.Call (.Name "_law_stream" p2) [.Name "script" p3] [] p4) p5) (tAsg (tCall (spStream K) [] E0 (tCons (tVar 0) tNil)) (gName 1)) :=
      ps_set (i := 1) S.nd rfl (g.toGood.loc hst) (pe_call FS (hr.mono hk) hg mS kS bS .nil pass0 (pa_cons (pe_var (i := 0) rfl (.inl hs)) pa_nil)) rfl (.inl rfl)
    have second : PSs (cxOf CX0 P w K mg base ("script" :: "stream" :: N0) qual (defScope st) f cdv A outer s H E).nox rest (fun D σ H => ∃ R a H0, tSs T K R a H0 FU cs D σ H) :=
      ⟨fun pins s σ H D I ⟨R, a, H0, h⟩ => (blk_ok (R := R) (a := a) (H0 := H0) g m FU _ _ hc).run pins s σ H D I h⟩
    rw [hb]
    refine ⟨_, pss_cons first second, ?_⟩
    refine ⟨_, rfl, p, ns, rfl, h1, fun q1 pp hq hp => ?_⟩
    have n1 : q1 ≠ pp := fun e => by rw [e, upd_same] at hp; cases hp
    have hlen : (L2.start ("script" :: "stream" :: N0) [V.ref p]).length = N0.length + 2 := by unfold L2.start; simp
    have hq' : (L2.upd (L2.upd H q1 (.lst (ns.map V.int))) pp (.lst [.ref q1, .int 0, .int 0])) q1 = some (.lst (ns.map V.int)) := by rw [upd_ne n1]; exact upd_same
    refine ⟨fun b => b ≠ pp, pp, L2.upd (L2.upd H q1 (.lst (ns.map V.int))) pp (.lst [.ref q1, .int 0, .int 0]), fun _ => False, none :: some .stm :: List.replicate N0.length none, some (ns, 0, 0), .rt (.bl true), S', ?_, hS', ?_⟩
    · refine ⟨⟨fun b hb e => (by rw [e, upd_same] at hb; cases hb), fun h => h rfl⟩, Keep.refl, fun b h => h.elim, ⟨?_, fun i x h => ?_⟩, fun i xs h => ?_, fun i j xs ys h => ?_, ⟨q1, upd_same, hq', n1, n1, fun z => z⟩⟩
      · rw [List.length_set, hlen]
        simp
      · match i, h with
        | 0, h => cases h
        | 1, h =>
          cases h
          exact ⟨.ref pp, List.getElem?_set_self (by rw [hlen]; omega), .stm⟩
        | i + 2, h =>
          simp only [List.getElem?_cons_succ, List.getElem?_replicate] at h
          split at h <;> cases h
      · match i, h with
        | 0, h => cases h
        | 1, h => cases h
        | i + 2, h =>
          simp only [List.getElem?_cons_succ, List.getElem?_replicate] at h
          split at h <;> cases h
      · match i, h with
        | 0, h => cases h
        | 1, h => cases h
        | i + 2, h =>
          simp only [List.getElem?_cons_succ, List.getElem?_replicate] at h
          split at h <;> cases h
    · intro v H' k' s' r'
      cases r'
      exact q H'
end
end Ws

/-! Ws18: how texts in short are worked out, step by step. -/
namespace Ws
open PySem PySem.Spec L2

section
variable {T : Tbl} {n : Nat} {env : Env} {S : Strm}
theorem e_non : evE T (n + 1) .non env S = some (.non, S) := rfl
theorem e_bl {b : Bool} : evE T (n + 1) (.bl b) env S = some (.bl b, S) := rfl
theorem e_int {i : Int} : evE T (n + 1) (.int i) env S = some (.int i, S) := rfl
theorem e_str {i : Str} : evE T (n + 1) (.str i) env S = some (.str i, S) := rfl
theorem e_ty {i : String} : evE T (n + 1) (.ty i) env S = some (.ty i, S) := rfl
def getV (o : Option (Option PV)) (S : Strm) : Option (PV × Strm) :=
  match o with
  | some (some x) => some (x, S)
  | _ => none
theorem e_var {i : Nat} : evE T (n + 1) (.var i) env S = getV env[i]? S := rfl
theorem getV_some {x : PV} : getV (some (some x)) S = some (x, S) := rfl
theorem e_glo {x : Str} : evE T (n + 1) (.glo x) env S = (T.glo x).map fun i => (.int i, S) := rfl
theorem e_tup {l : List CE} : evE T (n + 1) (.tup l) env S = (evL (fun e S => evE T n e env S) l S).bind fun r => if r.1.all (fun x => !x.isOwn) && decide (r.1.length ≤ LIM) then some (.tup r.1, r.2) else none := rfl
theorem e_lst {l : List CE} : evE T (n + 1) (.lst l) env S = (evL (fun e S => evE T n e env S) l S).bind fun r => if r.1.all (fun x => !x.isOwn) && decide (r.1.length ≤ LIM) then some (.lst r.1, r.2) else none := rfl
theorem e_bin {o : BOp} {a b : CE} : evE T (n + 1) (.bin o a b) env S = (evE T n a env S).bind fun r => (evE T n b env r.2).bind fun q => (binV o r.1 q.1).map fun x => (x, q.2) := rfl
def negV (r : PV × Strm) : Option (PV × Strm) :=
  match r.1 with
  | .int i => some (.int (-i), r.2)
  | _ => none
theorem e_neg {a : CE} : evE T (n + 1) (.neg a) env S = (evE T n a env S).bind negV := rfl
theorem negV_int {i : Int} : negV (.int i, S) = some (.int (-i), S) := rfl
theorem e_not {a : CE} : evE T (n + 1) (.not a) env S = (evE T n a env S).bind fun r => r.1.tru.map fun b => (.bl (!b), r.2) := rfl
def andV (r : PV × Strm) (k : Strm → Option (PV × Strm)) : Option (PV × Strm) :=
  match r.1 with
  | .bl true => k r.2
  | .bl false => some (.bl false, r.2)
  | _ => none
def orV (r : PV × Strm) (k : Strm → Option (PV × Strm)) : Option (PV × Strm) :=
  match r.1 with
  | .bl true => some (.bl true, r.2)
  | .bl false => k r.2
  | _ => none
theorem e_and {a b : CE} : evE T (n + 1) (.and a b) env S = (evE T n a env S).bind fun r => andV r fun S => evE T n b env S := rfl
theorem e_or {a b : CE} : evE T (n + 1) (.or a b) env S = (evE T n a env S).bind fun r => orV r fun S => evE T n b env S := rfl
theorem andV_bl {b : Bool} {k : Strm → Option (PV × Strm)} : andV (.bl b, S) k = if b then k S else some (.bl false, S) := by cases b <;> rfl
theorem orV_bl {b : Bool} {k : Strm → Option (PV × Strm)} : orV (.bl b, S) k = if b then some (.bl true, S) else k S := by cases b <;> rfl
/-- and, or of two tests without effect -/
theorem and_pure {b c : Bool} : (if b then some (PV.bl c, S) else some (PV.bl false, S)) = some (PV.bl (b && c), S) := by cases b <;> rfl
theorem or_pure {b c : Bool} : (if b then some (PV.bl true, S) else some (PV.bl c, S)) = some (PV.bl (b || c), S) := by cases b <;> rfl
theorem e_cmp {o : COp} {a b : CE} : evE T (n + 1) (.cmp o a b) env S = (evE T n a env S).bind fun r => (evE T n b env r.2).bind fun q => (cmpV o r.1 q.1).map fun x => (.bl x, q.2) := rfl
theorem e_chain {o o' : COp} {a b d : CE} : evE T (n + 1) (.chain o o' a b d) env S = (evE T n a env S).bind fun r => (evE T n b env r.2).bind fun q => (cmpV o r.1 q.1).bind fun x =>
      if x then (evE T n d env q.2).bind fun u => (cmpV o' q.1 u.1).map fun y => (.bl y, u.2) else some (.bl false, q.2) := rfl
theorem e_ite {d a b : CE} : evE T (n + 1) (.ite d a b) env S = (evE T n d env S).bind fun r => r.1.tru.bind fun x => if x then evE T n a env r.2 else evE T n b env r.2 := rfl
theorem e_idx {a i : CE} : evE T (n + 1) (.idx a i) env S = (evE T n a env S).bind fun r => (evE T n i env r.2).bind fun q => (idxS q.2 r.1 q.1).map fun x => (x, q.2) := rfl
theorem e_sli {a : CE} {lo hi : Option CE} : evE T (n + 1) (.sli a lo hi) env S = (evE T n a env S).bind fun r => (parV (fun e S => evE T n e env S) lo r.2).bind fun u => (parV (fun e S => evE T n e env S) hi u.2).bind fun v => (sliV r.1 u.1 v.1).map fun x => (x, v.2) := rfl
def callR (own : Bool) (S : Strm) (q : Out × Strm) : Option (PV × Strm) :=
  match q.1 with
  | .ret x => if own || (x.flat && (S.isSome || q.2.isNone)) then some (x, q.2) else none
  | .exc _ _ => none
theorem e_call {f : Str} {l : List CE} : evE T (n + 1) (.call f l) env S = (T.fn f).bind fun φ => (evL (fun e S => evE T n e env S) l S).bind fun r => if r.1.length = φ.1 then (φ.2 (r.1.map PV.thaw) r.2).bind (callR (r.1.all (fun x => !x.isOwn)) r.2) else none := rfl
theorem callR_ret {x : PV} {S S' : Strm} : callR true S (.ret x, S') = some (x, S') := rfl
theorem callR_flat {x : PV} {b : Bool} {S S' : Strm} (h : x.flat = true) (h' : (S.isSome || S'.isNone) = true) : callR b S (.ret x, S') = some (x, S') := by unfold callR; dsimp only; rw [h, h']; cases b <;> rfl
theorem e_bi {b : Bi} {l : List CE} : evE T (n + 1) (.bi b l) env S = (evL (fun e S => evE T n e env S) l S).bind fun r => (biV b r.1).map fun x => (x, r.2) := rfl
theorem e_comp {elt : CE} {tg : Tg} {it : CI} {ifs : Option CE} {own : List (Str × Nat)} : evE T (n + 1) (.comp elt tg it ifs own) env S = (itV true (fun e S => evE T n e env S) it S).bind fun its =>
      if its.1.length ≤ LIM then
        (compL (stepV (fun e env S => evE T n e env S) elt tg ifs (wipeE env (own.map (·.2)))) its.1 its.2).map fun r => (.lst r.1, r.2)
      else none := rfl
theorem e_comp2 {elt : CE} {tg : Tg} {it : CI} {ifs : Option CE} {tg1 : Tg} {it1 : CI} {ifs1 : Option CE} {own : List (Str × Nat)} : evE T (n + 1) (.comp2 elt tg it ifs tg1 it1 ifs1 own) env S = (itV true (fun e S => evE T n e env S) it S).bind fun its =>
        (compLL (step2V (fun e env S => evE T n e env S) elt tg ifs tg1 it1 ifs1 (wipeE env (own.map (·.2)))) its.1 its.2).bind fun r => if r.1.length ≤ LIM then some (.lst r.1, r.2) else none := rfl
theorem l_nil {ev : CE → Strm → Option (PV × Strm)} : evL ev [] S = some ([], S) := rfl
theorem l_cons {ev : CE → Strm → Option (PV × Strm)} {e : CE} {es : List CE} : evL ev (e :: es) S = (ev e S).bind fun r => (evL ev es r.2).map fun q => (r.1 :: q.1, q.2) := rfl
/- statements -/
theorem s_nil {ev : CS → Env → Strm → Option (Fl × Strm)} : seqL ev [] env S = some (.nx env, S) := rfl
/-- the rest of a block, kept shut until the names' values are known -/
def thenL (ev : CS → Env → Strm → Option (Fl × Strm)) (cs : List CS) (r : Fl × Strm) : Option (Fl × Strm) :=
  match r.1 with
  | .nx env => seqL ev cs env r.2
  | .rt x => some (.rt x, r.2)
theorem s_cons {ev : CS → Env → Strm → Option (Fl × Strm)} {c : CS} {cs : List CS} : seqL ev (c :: cs) env S = (ev c env S).bind (thenL ev cs) := rfl
theorem then_nx {ev : CS → Env → Strm → Option (Fl × Strm)} {cs : List CS} : thenL ev cs (.nx env, S) = seqL ev cs env S := rfl
theorem then_rt {ev : CS → Env → Strm → Option (Fl × Strm)} {cs : List CS} {x : PV} : thenL ev cs (.rt x, S) = some (.rt x, S) := rfl
/-- a turn of a for, kept shut -/
def bodyF (T : Tbl) (n : Nat) (t : Tg) (b : List CS) (x : PV) (env : Env) (S : Strm) : Option (Fl × Strm) := (bindT t x env).bind fun e1 => seqL (fun c env S => evS T n c env S) b e1 S
def turnF (T : Tbl) (n : Nat) (t : Tg) (b : List CS) (env : Env) (r : List PV × Strm) : Option (Fl × Strm) := forL (bodyF T n t b) r.1 env r.2
theorem turn_eq {t : Tg} {b : List CS} {xs : List PV} : turnF T n t b env (xs, S) = forL (bodyF T n t b) xs env S := rfl
/-- the two ways of an if, kept shut -/
def ifeF (T : Tbl) (n : Nat) (a b : List CS) (env : Env) (S : Strm) (x : Bool) : Option (Fl × Strm) := if x then seqL (fun c env S => evS T n c env S) a env S else seqL (fun c env S => evS T n c env S) b env S
theorem ife_t {a b : List CS} : ifeF T n a b env S true = seqL (fun c env S => evS T n c env S) a env S := rfl
theorem ife_f {a b : List CS} : ifeF T n a b env S false = seqL (fun c env S => evS T n c env S) b env S := rfl
def ifeG (T : Tbl) (n : Nat) (a b : List CS) (env : Env) (r : PV × Strm) : Option (Fl × Strm) := r.1.tru.bind (ifeF T n a b env r.2)
theorem ifeG_eq {a b : List CS} {x : PV} : ifeG T n a b env (x, S) = x.tru.bind (ifeF T n a b env S) := rfl
theorem c_asg {t : Tg} {e : CE} : evS T (n + 1) (.asg t e) env S = (evE T FU e env S).bind fun r => (bindT t r.1 env).map fun env' => (.nx env', r.2) := rfl
theorem c_ret {e : CE} : evS T (n + 1) (.ret e) env S = (evE T FU e env S).bind fun r => if r.1.isOwn then none else some (.rt r.1, r.2) := rfl
theorem c_retO {i : Nat} : evS T (n + 1) (.retO i) env S = (ownAt env i).map fun l => (.rt (.lst l), S) := rfl
theorem c_exp {e : CE} : evS T (n + 1) (.exp e) env S = (evE T FU e env S).map fun r => (.nx env, r.2) := rfl
theorem c_ife {d : CE} {a b : List CS} : evS T (n + 1) (.ife d a b) env S = (evE T FU d env S).bind (ifeG T n a b env) := rfl
theorem c_for {t : Tg} {it : CI} {b : List CS} : evS T (n + 1) (.for_ t it b) env S = (itV false (fun e S => evE T FU e env S) it S).bind (turnF T n t b env) := rfl
def asgOV (i : Nat) (env : Env) (S : Strm) (r : PV × Strm) : Option (Fl × Strm) :=
  match r.1 with
  | .lst l => if i < env.length && (S.isSome || r.2.isNone) then some (.nx (env.set i (some (.own l))), r.2) else none
  | _ => none
theorem c_asgO {i : Nat} {e : CE} : evS T (n + 1) (.asgO i e) env S = if isFresh e then (evE T FU e env S).bind (asgOV i env S) else none := rfl
def dropV (T : Tbl) (e : CE) (env : Env) (S : Strm) (q : Out × Strm) : Option (Fl × Strm) :=
  match q.1 with
  | .ret (.lst xs) => if decide (xs.length < LIM) && (S.isSome || q.2.isNone) && xs.any (fun x => match x with | .tup _ => true | _ => false) then (evE T FU e env q.2).bind fun u => if S.isSome || u.2.isNone then some (.nx env, u.2) else none else none
  | _ => none
theorem c_drop {f : Str} {l : List CE} {e : CE} : evS T (n + 1) (.drop f l e) env S = (T.fn f).bind fun φ => (evL (fun e S => evE T FU e env S) l S).bind fun r => if r.1.length = φ.1 && r.1.all PV.flat then (φ.2 r.1 r.2).bind (dropV T e env r.2) else none := rfl
theorem c_par {i j : Nat} {x y : CE} : evS T (n + 1) (.par i j x y) env S = (evE T FU x env S).bind fun r => (evE T FU y env r.2).bind fun q => if r.1.isOwn || q.1.isOwn then none else some (.nx ((env.set i (some r.1)).set j (some q.1)), q.2) := rfl
def popV (T : Tbl) (w : List Bi) (i : Nat) (e : CE) (tg : Nat) (vs : List Nat) (t : Option Nat) (env : Env) (its : List PV × Strm) : Option (Fl × Strm) :=
  (ownAt env i).bind fun l => if decide (its.1.length ≤ LIM) then
        (popL (popS (fun e env S => evE T FU e env S) e tg i vs env) its.1 l its.2).bind fun q => (wrapV w (.lst q.1.1)).bind fun x => if x.isOwn then none else
          match t with
          | some j => some (.nx ((env.set i (some (.own q.1.2))).set j (some x)), q.2)
          | none => some (.rt x, q.2)
        else none
theorem c_pop {w : List Bi} {i : Nat} {e : CE} {tg : Nat} {it : CI} {own : List (Str × Nat)} {t : Option Nat} : evS T (n + 1) (.pop t w i e tg it own) env S = (itV false (fun e S => evE T FU e env S) it S).bind (popV T w i e tg (own.map (·.2)) t env) := rfl
theorem e_gcd {a b : CE} : evE T (n + 1) (.gcd a b) env S = (evE T n a env S).bind fun r => (evE T n b env r.2).bind fun q => gcdV r q := rfl
theorem gcdV_int {i j : Int} {S S' : Strm} : gcdV (.int i, S) (.int j, S') = some (.int ((Nat.gcd i.natAbs j.natAbs : Nat) : Int), S') := rfl
theorem c_app {i : Nat} {e : CE} : evS T (n + 1) (.app i e) env S = (evE T FU e env S).bind fun r => (ownAt env i).bind fun l => if r.1.isOwn || !decide (l.length < LIM) then none else some (.nx (env.set i (some (.own (l ++ [r.1])))), r.2) := rfl
def ssetV (i : Nat) (j : Int) (env : Env) (r : PV × Strm) : Option (Fl × Strm) :=
  match env[i]?, r.1, r.2 with
  | some (some .stm), .int z, some (scr, c, k) => if j = 1 then some (.nx env, some (scr, z, k)) else if j = 2 then some (.nx env, some (scr, c, z)) else none
  | _, _, _ => none
theorem c_sset {i : Nat} {j : Int} {e : CE} : evS T (n + 1) (.sset i j e) env S = (evE T FU e env S).bind (ssetV i j env) := rfl
end
end Ws

/-! Ws19: the words that work a text out; walks without effect. -/
namespace Ws
open PySem PySem.Spec L2

theorem g0 {α : Type} {a : α} {l : List α} : (a :: l)[0]? = some a := rfl
theorem gS {α : Type} {a : α} {l : List α} {n : Nat} : (a :: l)[n + 1]? = l[n]? := rfl
theorem st0 {α : Type} {a b : α} {l : List α} : (a :: l).set 0 b = b :: l := rfl
theorem stS {α : Type} {a b : α} {l : List α} {n : Nat} : (a :: l).set (n + 1) b = a :: l.set n b := rfl
theorem thaw_tup {l : List PV} : (PV.tup l).thaw = .tup l := rfl
theorem thaw_lst {l : List PV} : (PV.lst l).thaw = .lst l := rfl
theorem thaw_own {l : List PV} : (PV.own l).thaw = .lst l := rfl
theorem thaw_int {l : Int} : (PV.int l).thaw = .int l := rfl
theorem thaw_bl {l : Bool} : (PV.bl l).thaw = .bl l := rfl
theorem thaw_str {l : Str} : (PV.str l).thaw = .str l := rfl
theorem thaw_non : PV.non.thaw = .non := rfl
theorem thaw_stm : PV.stm.thaw = .stm := rfl
theorem thaw_of {x : PV} (h : x.isOwn = false) : x.thaw = x := by cases x <;> first | rfl | (simp [PV.isOwn] at h)
theorem own_tup {l : List PV} : (PV.tup l).isOwn = false := rfl
theorem own_lst {l : List PV} : (PV.lst l).isOwn = false := rfl
theorem own_own {l : List PV} : (PV.own l).isOwn = true := rfl
theorem own_int {l : Int} : (PV.int l).isOwn = false := rfl
theorem own_bl {l : Bool} : (PV.bl l).isOwn = false := rfl
theorem own_str {l : Str} : (PV.str l).isOwn = false := rfl
theorem own_non : PV.non.isOwn = false := rfl
theorem own_ty {n : String} : (PV.ty n).isOwn = false := rfl
theorem own_stm : PV.stm.isOwn = false := rfl
theorem tru_bl {b : Bool} : (PV.bl b).tru = some b := rfl
theorem tru_int {b : Int} : (PV.int b).tru = some (b != 0) := rfl
theorem seq_tup {l : List PV} : (PV.tup l).seq? = some l := rfl
theorem seq_lst {l : List PV} : (PV.lst l).seq? = some l := rfl
theorem seq_own {l : List PV} : (PV.own l).seq? = some l := rfl
theorem lst_lst {l : List PV} : (PV.lst l).lst? = some l := rfl
theorem lst_own {l : List PV} : (PV.own l).lst? = some l := rfl
/- operations -/
theorem add_int {i j : Int} : binV .add (.int i) (.int j) = some (.int (i + j)) := rfl
theorem sub_int {i j : Int} : binV .sub (.int i) (.int j) = some (.int (i - j)) := rfl
theorem mul_int {i j : Int} : binV .mul (.int i) (.int j) = if sml i || sml j then some (.int (i * j)) else none := rfl
theorem mod_int {i j : Int} : binV .mod (.int i) (.int j) = if decide (0 < j) then some (.int (i % j)) else none := rfl
theorem fdiv_int {i j : Int} : binV .fdiv (.int i) (.int j) = if decide (0 < j) && decide (j < 1073741824) then some (.int (i / j)) else none := rfl
theorem add_tup {a b : List PV} : binV .add (.tup a) (.tup b) = if a.length + b.length ≤ LIM then some (.tup (a ++ b)) else none := rfl
theorem add_lst {a b : List PV} : binV .add (.lst a) (.lst b) = if a.length + b.length ≤ LIM then some (.lst (a ++ b)) else none := rfl
theorem eq_int {i j : Int} : cmpV .eq (.int i) (.int j) = some (decide (i = j)) := rfl
theorem ne_int {i j : Int} : cmpV .ne (.int i) (.int j) = some (!decide (i = j)) := rfl
theorem lt_int' {i j : Int} : cmpV .lt (.int i) (.int j) = some (decide (i < j)) := rfl
theorem le_int' {i j : Int} : cmpV .le (.int i) (.int j) = some (decide (i ≤ j)) := rfl
theorem gt_int' {i j : Int} : cmpV .gt (.int i) (.int j) = some (decide (j < i)) := rfl
theorem ge_int' {i j : Int} : cmpV .ge (.int i) (.int j) = some (decide (j ≤ i)) := rfl
theorem isN_non : cmpV .isN .non .non = some true := rfl
theorem ne_bl {a b : Bool} : cmpV .ne (.bl a) (.bl b) = some (a != b) := by cases a <;> cases b <;> decide
theorem eq_bl {a b : Bool} : cmpV .eq (.bl a) (.bl b) = some (a == b) := by cases a <;> cases b <;> decide
theorem idx_tup {l : List PV} {i : Int} {S : Strm} : idxS S (.tup l) (.int i) = atI l i := rfl
theorem idx_lst {l : List PV} {i : Int} {S : Strm} : idxS S (.lst l) (.int i) = atI l i := rfl
theorem idx_own {l : List PV} {i : Int} {S : Strm} : idxS S (.own l) (.int i) = atI l i := rfl
theorem len_1 {x : PV} : biV .len [x] = x.seq?.map fun l => .int l.length := rfl
theorem all_1 {x : PV} : biV .all [x] = (x.lst?.bind bls?).map fun l => .bl (l.all id) := rfl
theorem any_1 {x : PV} : biV .any [x] = (x.lst?.bind bls?).map fun l => .bl (l.any id) := rfl
theorem sum_1 {x : PV} : biV .sum [x] = (x.lst?.bind ints?).map fun l => .int l.sum := rfl
theorem tuple_1 {x : PV} : biV .tuple [x] = x.seq?.map .tup := rfl
theorem list_1 {x : PV} : biV .list [x] = x.seq?.map .lst := rfl
theorem sorted_1 {x : PV} : biV .sorted [x] = (x.seq?.bind srtV).map .lst := rfl
theorem int_1 {i : Int} : biV .int [.int i] = some (.int i) := rfl
theorem abs_1 {i : Int} : biV .abs [.int i] = some (.int (if i < 0 then -i else i)) := rfl
theorem type_1 {x : PV} : biV .type [x] = (tyName x).map .ty := rfl
theorem isi_2 {x : PV} {n : String} : biV .isi [x, .ty n] = (tyName x).bind fun m => (kitB m n).map .bl := rfl
theorem bind_nm {i : Nat} {x : PV} {env : Env} : bindT (.nm i) x env = if x.isOwn then none else some (env.set i (some x)) := rfl
theorem bind_tp {l : List Nat} {xs : List PV} {env : Env} : bindT (.tp l) (.tup xs) env = if xs.length = l.length then some ((l.zip xs).foldl (fun e p => e.set p.1 (some p.2)) env) else none := rfl
theorem bind_tpl {l : List Nat} {xs : List PV} {env : Env} : bindT (.tp l) (.lst xs) env = if xs.length = l.length then some ((l.zip xs).foldl (fun e p => e.set p.1 (some p.2)) env) else none := rfl
theorem min1_1 {x : PV} : biV .min1 [x] = ((x.lst?.bind ints?).bind minL).map .int := rfl
theorem max1_1 {x : PV} : biV .max1 [x] = ((x.lst?.bind ints?).bind maxL).map .int := rfl
theorem mind_1 {x : PV} : biV .mind [x] = x.lst?.bind mnV := rfl
theorem min2_1 {i j : Int} : biV .min2 [.int i, .int j] = some (.int (if j < i then j else i)) := rfl
theorem max2_1 {i j : Int} : biV .max2 [.int i, .int j] = some (.int (if j > i then j else i)) := rfl
def enumB (ok : Bool) (r : PV × Strm) : Option (List PV × Strm) := if ok || !r.1.isOwn then r.1.lst?.map fun l => (enumV l, r.2) else none
theorem it_enum {ok : Bool} {ev : CE → Strm → Option (PV × Strm)} {e : CE} {S : Strm} : itV ok ev (.enum e) S = (ev e S).bind (enumB ok) := rfl
theorem enumB_lst {ok : Bool} {l : List PV} {S : Strm} : enumB ok (.lst l, S) = some (enumV l, S) := by cases ok <;> rfl
theorem it_seq {ok : Bool} {ev : CE → Strm → Option (PV × Strm)} {e : CE} {S : Strm} : itV ok ev (.seq e) S = (ev e S).bind fun r => if ok || !r.1.isOwn then r.1.seq?.map fun l => (l, r.2) else none := rfl
def rngA (r : PV × Strm) : Option (List PV × Strm) :=
  match r.1 with
  | .int j => if inR j then some (rangeV 0 j, r.2) else none
  | _ => none
def rngB (r q : PV × Strm) : Option (List PV × Strm) :=
  match r.1, q.1 with
  | .int i, .int j => if inR i && inR j then some (rangeV i j, q.2) else none
  | _, _ => none
theorem it_rng1 {ok : Bool} {ev : CE → Strm → Option (PV × Strm)} {e : CE} {S : Strm} : itV ok ev (.rng1 e) S = (ev e S).bind rngA := rfl
theorem it_rng2 {ok : Bool} {ev : CE → Strm → Option (PV × Strm)} {a b : CE} {S : Strm} : itV ok ev (.rng2 a b) S = (ev a S).bind fun r => (ev b r.2).bind fun q => rngB r q := rfl
theorem rngA_int {j : Int} {S : Strm} : rngA (.int j, S) = if inR j then some (rangeV 0 j, S) else none := rfl
theorem rngB_int {i j : Int} {S S' : Strm} : rngB (.int i, S) (.int j, S') = if inR i && inR j then some (rangeV i j, S') else none := rfl
def zipB (ok : Bool) (r q : PV × Strm) : Option (List PV × Strm) :=
  match r.1, q.1 with
  | .tup x, .tup y => some (zipV x y, q.2)
  | x, y => if ok || !(x.isOwn || y.isOwn) then (match x.lst?, y.lst? with | some x, some y => some (zipV x y, q.2) | _, _ => none) else none
theorem it_zip {ok : Bool} {ev : CE → Strm → Option (PV × Strm)} {a b : CE} {S : Strm} : itV ok ev (.zip a b) S = (ev a S).bind fun r => (ev b r.2).bind fun q => zipB ok r q := rfl
theorem zip_tup {ok : Bool} {x y : List PV} {S S' : Strm} : zipB ok (.tup x, S) (.tup y, S') = some (zipV x y, S') := rfl
theorem zip_lst {ok : Bool} {x y : List PV} {S S' : Strm} : zipB ok (.lst x, S) (.lst y, S') = some (zipV x y, S') := by cases ok <;> rfl
theorem par_none {ev : CE → Strm → Option (PV × Strm)} {S : Strm} : parV ev none S = some (none, S) := rfl
def parB (q : PV × Strm) : Option (Option Int × Strm) :=
  match q.1 with
  | .int i => some (some i, q.2)
  | _ => none
theorem par_some {ev : CE → Strm → Option (PV × Strm)} {e : CE} {S : Strm} : parV ev (some e) S = (ev e S).bind parB := rfl
theorem parB_int {i : Int} {S : Strm} : parB (.int i, S) = some (some i, S) := rfl
theorem sli_tup {l : List PV} {lo hi : Option Int} : sliV (.tup l) lo hi = some (.tup (cutP l lo hi)) := rfl
theorem sli_lst {l : List PV} {lo hi : Option Int} : sliV (.lst l) lo hi = some (.lst (cutP l lo hi)) := rfl
theorem step_none {ev : CE → Env → Strm → Option (PV × Strm)} {elt : CE} {tg : Tg} {env : Env} {x : PV} {S : Strm} : stepV ev elt tg none env x S = (bindT tg x env).bind fun e1 => (ev elt e1 S).bind fun r => if r.1.isOwn then none else some (some r.1, r.2) := rfl
theorem step_some {ev : CE → Env → Strm → Option (PV × Strm)} {elt d : CE} {tg : Tg} {env : Env} {x : PV} {S : Strm} : stepV ev elt tg (some d) env x S = (bindT tg x env).bind fun e1 => ((ev d e1 S).bind fun r => r.1.tru.map fun b => (b, r.2)).bind fun k =>
      if k.1 then (ev elt e1 k.2).bind fun r => if r.1.isOwn then none else some (some r.1, r.2) else some (none, k.2) := rfl
theorem wipe_nil {env : Env} : wipeE env [] = env := rfl
theorem wipe_cons {env : Env} {v : Nat} {vs : List Nat} : wipeE env (v :: vs) = (wipeE env vs).set v none := rfl
/-- a comprehension without effect -/
theorem compL_pure {step : PV → Strm → Option (Option PV × Strm)} {S : Strm} {g : PV → Option PV} : ∀ {xs : List PV}, (∀ x ∈ xs, step x S = some (g x, S)) → compL step xs S = some (xs.filterMap g, S)
  | [], _ => rfl
  | x :: xs, h => by
    have ih := compL_pure (xs := xs) fun y hy => h y (List.mem_cons_of_mem _ hy)
    rw [compL, h x List.mem_cons_self, Option.bind_some, ih, Option.map_some]
    cases e : g x with
    | none => rw [List.filterMap_cons_none e]
    | some y => rw [List.filterMap_cons_some e]
theorem compL_map {α : Type} {step : PV → Strm → Option (Option PV × Strm)} {S : Strm} {f : α → PV} {g : α → Option PV} {xs : List α} (h : ∀ x ∈ xs, step (f x) S = some (g x, S)) : compL step (xs.map f) S = some (xs.filterMap g, S) := by
  induction xs with
  | nil => rfl
  | cons x xs ih =>
    have ih := ih fun y hy => h y (List.mem_cons_of_mem _ hy)
    rw [List.map_cons, compL, h x List.mem_cons_self, Option.bind_some, ih, Option.map_some]
    cases e : g x with
    | none => rw [List.filterMap_cons_none e]
    | some y => rw [List.filterMap_cons_some e]
theorem ints_map : ∀ (l : List Int), ints? (l.map PV.int) = some l
  | [] => rfl
  | x :: xs => by rw [List.map_cons, ints?, ints_map xs]; rfl
theorem bls_map : ∀ (l : List Bool), bls? (l.map PV.bl) = some l
  | [] => rfl
  | x :: xs => by rw [List.map_cons, bls?, bls_map xs]; rfl
/-- what a def is worth, by its statements -/
theorem evF_eq {T : Tbl} {n : Nat} {b : List CS} {xs : List PV} {S : Strm} : evF T n b xs S = (seqL (fun c env S => evS T FU c env S) b (xs.map some ++ List.replicate (n - xs.length) none) S).map fun r => match r.1 with
    | .nx _ => (.ret .non, r.2)
    | .rt x => (.ret x, r.2) := rfl
def endV (r : Fl × Strm) : Out × Strm :=
  match r.1 with
  | .nx _ => (.ret .non, r.2)
  | .rt x => (.ret x, r.2)
theorem evF_end {T : Tbl} {n : Nat} {b : List CS} {xs : List PV} {S : Strm} : evF T n b xs S = (seqL (fun c env S => evS T FU c env S) b (xs.map some ++ List.replicate (n - xs.length) none) S).map endV := rfl
theorem end_nx {env : Env} {S : Strm} : endV (.nx env, S) = (.ret .non, S) := rfl
theorem end_rt {x : PV} {S : Strm} : endV (.rt x, S) = (.ret x, S) := rfl
theorem body_eq {T : Tbl} {n : Nat} {t : Tg} {b : List CS} {x : PV} {env : Env} {S : Strm} : bodyF T n t b x env S = (bindT t x env).bind fun e1 => seqL (fun c env S => evS T n c env S) b e1 S := rfl
theorem len_nil {α : Type} : ([] : List α).length = 0 := rfl


end Ws

/-! WsP: the defs of the program and of the laws, in short. -/
namespace Ws.P
open PySem PySem.Spec PyProof.Rows L2 Ws
abbrev N_is_within : List Str := ["value", "least", "most"]
def c_is_within : List CS := [
  .ret (.and (.cmp .eq (.bi .type [(.var 0)]) (.ty "int")) (.chain .le .le (.var 1) (.var 0) (.var 2)))]
abbrev N_is_tuple : List Str := ["value", "least", "most"]
def c_is_tuple : List CS := [
  .ret (.and (.cmp .eq (.bi .type [(.var 0)]) (.ty "tuple")) (.chain .le .le (.var 1) (.bi .len [(.var 0)]) (.var 2)))]
abbrev N_is_ascending : List Str := ["items", "low", "high"]
def c_is_ascending : List CS := [
  .ret (.bi .all [(.comp (.cmp .lt (.var 1) (.var 2)) (.tp [1, 2]) (.zip (.var 0) (.sli (.var 0) (some (.int 1)) none)) none [("low", 1), ("high", 2)])])]
abbrev N_is_pair : List Str := ["value", "points", "one", "other"]
def c_is_pair : List CS := [
  .ife (.not (.call "is_tuple" [(.var 0), (.int 2), (.int 2)])) [.ret (.bl false)] [],
  .asg (.tp [2, 3]) (.var 0),
  .ret (.and (.call "is_within" [(.var 2), (.int 0), (.bin .sub (.var 1) (.int 1))]) (.call "is_within" [(.var 3), (.bin .add (.var 2) (.int 1)), (.bin .sub (.var 1) (.int 1))]))]
abbrev N_is_link : List Str := ["value", "points", "most"]
def c_is_link : List CS := [
  .ret (.and (.call "is_tuple" [(.var 0), (.int 3), (.int 3)]) (.and (.call "is_pair" [(.sli (.var 0) none (some (.int 2))), (.var 1)]) (.call "is_within" [(.idx (.var 0) (.int 2)), (.int 1), (.var 2)])))]
abbrev N_are_links : List Str := ["value", "points", "many", "most", "link"]
def c_are_links : List CS := [
  .ife (.not (.call "is_tuple" [(.var 0), (.int 0), (.var 2)])) [.ret (.bl false)] [],
  .ife (.not (.bi .all [(.comp (.call "is_link" [(.var 4), (.var 1), (.var 3)]) (.nm 4) (.seq (.var 0)) none [("link", 4)])])) [.ret (.bl false)] [],
  .ret (.call "is_ascending" [(.comp (.sli (.var 4) none (some (.int 2))) (.nm 4) (.seq (.var 0)) none [("link", 4)])])]
abbrev N_are_rising : List Str := ["value", "least", "most", "item"]
def c_are_rising : List CS := [
  .ret (.and (.bi .all [(.comp (.call "is_within" [(.var 3), (.var 1), (.var 2)]) (.nm 3) (.seq (.var 0)) none [("item", 3)])]) (.call "is_ascending" [(.var 0)]))]
abbrev N_are_some : List Str := ["value", "least", "points"]
def c_are_some : List CS := [
  .ret (.and (.call "is_tuple" [(.var 0), (.int 1), (.bin .sub (.var 2) (.int 1))]) (.call "are_rising" [(.var 0), (.var 1), (.bin .sub (.var 2) (.int 1))]))]
abbrev N_is_net : List Str := ["value", "points", "roads"]
def c_is_net : List CS := [
  .ife (.not (.call "is_tuple" [(.var 0), (.int 2), (.int 2)])) [.ret (.bl false)] [],
  .asg (.tp [1, 2]) (.var 0),
  .ret (.and (.call "is_within" [(.var 1), (.glo "LEAST_POINTS"), (.glo "MOST_POINTS")]) (.call "are_links" [(.var 2), (.var 1), (.glo "MOST_ROADS"), (.glo "MOST_WIDTH")]))]
abbrev N_are_wishes : List Str := ["net", "value"]
def c_are_wishes : List CS := [
  .exp (.call "need_net" [(.var 0)]),
  .ret (.call "are_links" [(.var 1), (.idx (.var 0) (.int 0)), (.glo "MOST_WISHES"), (.glo "MOST_AMOUNT")])]
abbrev N_is_fence : List Str := ["net", "value"]
def c_is_fence : List CS := [
  .exp (.call "need_net" [(.var 0)]),
  .ret (.call "are_some" [(.var 1), (.int 1), (.idx (.var 0) (.int 0))])]
abbrev N_need_net : List Str := ["net"]
def c_need_net : List CS := [
  .ife (.not (.call "is_net" [(.var 0)])) [.stop] []]
abbrev N__law_next : List Str := ["stream", "many", "k", "cell", "digit"]
def c__law_next : List CS := [
  .ife (.cmp .eq (.idx (.var 0) (.int 1)) (.int 0)) [.asg (.nm 2) (.idx (.var 0) (.int 2)), .asg (.nm 3) (.bin .add (.int 7) (.var 2)), .ife (.cmp .lt (.var 2) (.bi .len [(.idx (.var 0) (.int 0))])) [.asg (.nm 3) (.bi .abs [(.idx (.idx (.var 0) (.int 0)) (.var 2))])] [], .ife (.cmp .lt (.var 3) (.bin .pow (.int 10) (.int 18))) [.asg (.nm 3) (.bin .mod (.bi .int [(.bin .add (.bin .add (.bin .mul (.var 3) (.int 48271)) (.bin .mul (.var 2) (.int 69621))) (.int 11))]) (.int 2147483647)), .asg (.nm 3) (.bin .add (.bin .mul (.bin .mod (.bi .int [(.bin .add (.bin .mul (.var 3) (.int 16807)) (.int 13))]) (.int 2147483647)) (.int 65537)) (.var 3))] [], .sset 0 1 (.var 3), .sset 0 2 (.bin .add (.var 2) (.int 1))] [],
  .asg (.nm 4) (.bin .mod (.bi .int [(.idx (.var 0) (.int 1))]) (.var 1)),
  .sset 0 1 (.bin .fdiv (.idx (.var 0) (.int 1)) (.var 1)),
  .ret (.var 4)]
abbrev N__law_is_integer : List Str := ["actual"]
def c__law_is_integer : List CS := [
  .ret (.and (.bi .isi [(.var 0), (.ty "int")]) (.not (.bi .isi [(.var 0), (.ty "bool")])))]
abbrev N__law_equal : List Str := ["actual", "due", "at"]
def c__law_equal : List CS := [
  .ife (.cmp .isN (.var 1) .non) [.ret (.cmp .isN (.var 0) .non)] [],
  .ife (.bi .isi [(.var 1), (.ty "bool")]) [.ret (.and (.bi .isi [(.var 0), (.ty "bool")]) (.cmp .eq (.var 0) (.var 1)))] [],
  .ife (.bi .isi [(.var 1), (.ty "int")]) [.ret (.and (.call "_law_is_integer" [(.var 0)]) (.cmp .eq (.var 0) (.var 1)))] [],
  .ife (.bi .isi [(.var 1), (.ty "str")]) [.ret (.and (.bi .isi [(.var 0), (.ty "str")]) (.cmp .eq (.var 0) (.var 1)))] [],
  .ife (.and (.bi .isi [(.var 1), (.ty "tuple")]) (.not (.bi .isi [(.var 0), (.ty "tuple")]))) [.ret (.bl false)] [],
  .ife (.and (.bi .isi [(.var 1), (.ty "list")]) (.not (.bi .isi [(.var 0), (.ty "list")]))) [.ret (.bl false)] [],
  .ife (.cmp .ne (.bi .len [(.var 0)]) (.bi .len [(.var 1)])) [.ret (.bl false)] [],
  .ret (.bi .all [(.comp (.call "_law_equal" [(.idx (.var 0) (.var 2)), (.idx (.var 1) (.var 2))]) (.nm 2) (.rng1 (.bi .len [(.var 1)])) none [("at", 2)])])]
abbrev N__law_pick : List Str := ["stream", "rows"]
def c__law_pick : List CS := [
  .ret (.idx (.var 1) (.call "_law_next" [(.var 0), (.bi .len [(.var 1)])]))]
abbrev N__law_links : List Str := ["stream", "points", "share", "most", "great", "found", "one", "other"]
def c__law_links : List CS := [
  .asgO 5 (.lst []),
  .for_ (.nm 6) (.rng1 (.var 1)) [.for_ (.nm 7) (.rng2 (.bin .add (.var 6) (.int 1)) (.var 1)) [.ife (.and (.cmp .lt (.bi .len [(.var 5)]) (.var 3)) (.cmp .eq (.call "_law_next" [(.var 0), (.var 2)]) (.int 0))) [.app 5 (.tup [(.var 6), (.var 7), (.bin .add (.int 1) (.call "_law_next" [(.var 0), (.var 4)]))])] []]],
  .ret (.bi .tuple [(.var 5)])]
abbrev N__law_is_link : List Str := ["points", "value", "one"]
def c__law_is_link : List CS := [
  .ife (.or (.not (.bi .isi [(.var 1), (.ty "tuple")])) (.or (.cmp .ne (.bi .len [(.var 1)]) (.int 3)) (.not (.bi .all [(.comp (.call "_law_is_integer" [(.var 2)]) (.nm 2) (.seq (.var 1)) none [("one", 2)])])))) [.ret (.bl false)] [],
  .ret (.and (.cmp .le (.int 0) (.idx (.var 1) (.int 0))) (.and (.cmp .lt (.idx (.var 1) (.int 0)) (.idx (.var 1) (.int 1))) (.and (.cmp .lt (.idx (.var 1) (.int 1)) (.var 0)) (.cmp .mem (.idx (.var 1) (.int 2)) (.lst [(.int 1), (.int 2), (.int 3), (.int 4), (.int 5), (.int 6)])))))]
abbrev N__law_are_links : List Str := ["points", "value", "most", "pairs", "link", "at"]
def c__law_are_links : List CS := [
  .ife (.or (.not (.bi .isi [(.var 1), (.ty "tuple")])) (.or (.cmp .gt (.bi .len [(.var 1)]) (.var 2)) (.not (.bi .all [(.comp (.call "_law_is_link" [(.var 0), (.var 4)]) (.nm 4) (.seq (.var 1)) none [("link", 4)])])))) [.ret (.bl false)] [],
  .asg (.nm 3) (.comp (.sli (.var 4) none (some (.int 2))) (.nm 4) (.seq (.var 1)) none [("link", 4)]),
  .ret (.and (.cmp .eq (.var 3) (.bi .sorted [(.var 3)])) (.not (.bi .any [(.comp (.cmp .mem (.idx (.var 3) (.var 5)) (.sli (.var 3) none (some (.var 5)))) (.nm 5) (.rng1 (.bi .len [(.var 3)])) none [("at", 5)])])))]
abbrev N__law_is_fence : List Str := ["points", "value", "one", "point"]
def c__law_is_fence : List CS := [
  .ife (.or (.not (.bi .isi [(.var 1), (.ty "tuple")])) (.not (.bi .all [(.comp (.call "_law_is_integer" [(.var 2)]) (.nm 2) (.seq (.var 1)) none [("one", 2)])]))) [.ret (.bl false)] [],
  .ret (.and (.cmp .ne (.var 1) (.tup [])) (.cmp .eq (.bi .list [(.var 1)]) (.comp (.var 3) (.nm 3) (.rng2 (.int 1) (.var 0)) (some (.cmp .mem (.var 3) (.var 1))) [("point", 3)])))]
abbrev N__law_changed : List Str := ["stream", "points", "links", "at", "link", "place", "odd", "changed", "rows", "one"]
def c__law_changed : List CS := [
  .ife (.cmp .eq (.var 2) (.tup [])) [.ret (.call "_law_pick" [(.var 0), (.lst [(.tup []), (.lst []), .non, (.int 0), (.tup [(.tup [(.int 0), (.int 1), (.int 1)])]), (.tup [(.tup [(.int 0), (.int 1)])]), (.tup [(.tup [(.int 1), (.int 0), (.int 1)])]), (.tup [(.tup [(.int 0), (.int 0), (.int 1)])]), (.str ""), (.tup [.non])])])] [],
  .asg (.nm 3) (.call "_law_next" [(.var 0), (.bi .len [(.var 2)])]),
  .asg (.nm 4) (.idx (.var 2) (.var 3)),
  .asg (.nm 5) (.call "_law_next" [(.var 0), (.int 3)]),
  .asg (.nm 6) (.call "_law_pick" [(.var 0), (.lst [(.int 0), (.int 7), (.neg (.int 1)), (.bl true), (.bl false), .non, (.str "1"), (.var 1), (.bin .add (.idx (.var 4) (.var 5)) (.int 1)), (.idx (.var 4) (.int 0)), (.idx (.var 4) (.int 1)), (.int 6)])]),
  .asg (.nm 7) (.bin .add (.bin .add (.sli (.var 4) none (some (.var 5))) (.tup [(.var 6)])) (.sli (.var 4) (some (.bin .add (.var 5) (.int 1))) none)),
  .asgO 8 (.comp (.bin .add (.bin .add (.sli (.var 2) none (some (.var 3))) (.tup [(.var 9)])) (.sli (.var 2) (some (.bin .add (.var 3) (.int 1))) none)) (.nm 9) (.seq (.lst [(.var 7), (.var 7), (.var 7), (.sli (.var 4) none (some (.int 2))), (.bin .add (.var 4) (.tup [(.int 0)])), (.bi .list [(.var 4)]), (.tup [(.idx (.var 4) (.int 1)), (.idx (.var 4) (.int 0)), (.idx (.var 4) (.int 2))]), .non])) none [("one", 9)]),
  .asgO 8 (.bin .add (.var 8) (.lst [(.var 2), (.var 2), (.rev (.var 2)), (.bin .add (.sli (.var 2) none (some (.bin .add (.var 3) (.int 1)))) (.sli (.var 2) (some (.var 3)) none)), (.bin .add (.sli (.var 2) (some (.bin .add (.var 3) (.int 1))) none) (.sli (.var 2) none (some (.bin .add (.var 3) (.int 1))))), (.bi .list [(.var 2)])])),
  .app 8 (.bin .add (.bin .add (.sli (.var 2) none (some (.bin .add (.var 3) (.int 1)))) (.tup [(.bin .add (.sli (.var 4) none (some (.int 2))) (.tup [(.bin .sub (.int 7) (.idx (.var 4) (.int 2)))]))])) (.sli (.var 2) (some (.bin .add (.var 3) (.int 1))) none)),
  .ret (.call "_law_pick" [(.var 0), (.bin .add (.var 8) (.lst [.non, (.tup [(.var 2)]), (.bin .add (.sli (.var 2) none (some (.var 3))) (.sli (.var 2) (some (.bin .add (.var 3) (.int 1))) none))]))])]
abbrev N__law_fence_like : List Str := ["stream", "points", "fence", "odd", "rows", "point"]
def c__law_fence_like : List CS := [
  .asg (.nm 2) (.bi .tuple [(.comp (.var 5) (.nm 5) (.rng2 (.int 1) (.var 1)) (some (.cmp .eq (.call "_law_next" [(.var 0), (.int 2)]) (.int 0))) [("point", 5)])]),
  .asg (.nm 3) (.call "_law_pick" [(.var 0), (.lst [(.int 0), (.var 1), (.neg (.int 1)), (.bl true), (.bl false), .non, (.str "1")])]),
  .asg (.nm 4) (.lst [(.var 2), (.var 2), (.var 2), (.rev (.var 2)), (.bin .add (.var 2) (.sli (.var 2) none (some (.int 1)))), (.bin .add (.var 2) (.tup [(.var 3)])), (.bin .add (.tup [(.var 3)]) (.var 2)), (.bi .list [(.var 2)]), (.tup []), .non, (.int 1)]),
  .ret (.call "_law_pick" [(.var 0), (.bin .add (.var 4) (.lst [(.rg1 true (.var 1)), (.rg2 true (.int 1) (.var 1)), (.tup [(.var 2)]), (.str "")]))])]
abbrev N_need_wishes : List Str := ["net", "wishes"]
def c_need_wishes : List CS := [
  .ife (.not (.call "are_wishes" [(.var 0), (.var 1)])) [.stop] []]
abbrev N_need_fence : List Str := ["net", "fence"]
def c_need_fence : List CS := [
  .ife (.not (.call "is_fence" [(.var 0), (.var 1)])) [.stop] []]
abbrev N_is_parted : List Str := ["fence", "one", "other"]
def c_is_parted : List CS := [
  .ret (.cmp .ne (.cmp .mem (.var 1) (.var 0)) (.cmp .mem (.var 2) (.var 0)))]
abbrev N_crossing : List Str := ["links", "fence", "one", "other", "number"]
def c_crossing : List CS := [
  .ret (.bi .sum [(.comp (.var 4) (.tp [2, 3, 4]) (.seq (.var 0)) (some (.call "is_parted" [(.var 1), (.var 2), (.var 3)])) [("one", 2), ("other", 3), ("number", 4)])])]
abbrev N_room_left : List Str := ["net", "wishes", "fence"]
def c_room_left : List CS := [
  .ret (.bin .sub (.call "crossing" [(.idx (.var 0) (.int 1)), (.var 2)]) (.call "crossing" [(.var 1), (.var 2)]))]
abbrev N_sums_at : List Str := ["points", "links", "sums", "one", "other", "number"]
def c_sums_at : List CS := [
  .asgO 2 (.bin .mul (.lst [(.int 0)]) (.var 0)),
  .for_ (.tp [3, 4, 5]) (.seq (.var 1)) [.augI 2 (.var 3) (.var 5), .augI 2 (.var 4) (.var 5)],
  .retO 2]
abbrev N_fences : List Str := ["net", "points", "many", "fence"]
def c_fences : List CS := [
  .exp (.call "need_net" [(.var 0)]),
  .asg (.nm 1) (.idx (.var 0) (.int 0)),
  .ret (.bi .sorted [(.comp2 (.var 3) (.nm 2) (.rng2 (.int 1) (.var 1)) none (.nm 3) (.cb2 (.int 1) (.var 1) (.var 2)) none [("many", 2), ("fence", 3)])])]
abbrev N_fence_of : List Str := ["net", "some", "point"]
def c_fence_of : List CS := [
  .exp (.call "need_net" [(.var 0)]),
  .ife (.not (.call "are_some" [(.var 1), (.int 0), (.idx (.var 0) (.int 0))])) [.stop] [],
  .ife (.cmp .ne (.idx (.var 1) (.int 0)) (.int 0)) [.ret (.var 1)] [],
  .ret (.bi .tuple [(.comp (.var 2) (.nm 2) (.rng1 (.idx (.var 0) (.int 0))) (some (.cmp .nmem (.var 2) (.var 1))) [("point", 2)])])]
abbrev N_width : List Str := ["net", "fence"]
def c_width : List CS := [
  .exp (.call "need_fence" [(.var 0), (.var 1)]),
  .ret (.call "crossing" [(.idx (.var 0) (.int 1)), (.var 1)])]
abbrev N_load : List Str := ["net", "wishes", "fence"]
def c_load : List CS := [
  .exp (.call "need_wishes" [(.var 0), (.var 1)]),
  .exp (.call "need_fence" [(.var 0), (.var 2)]),
  .ret (.call "crossing" [(.var 1), (.var 2)])]
abbrev N_room : List Str := ["net", "wishes", "fence"]
def c_room : List CS := [
  .exp (.call "need_wishes" [(.var 0), (.var 1)]),
  .exp (.call "need_fence" [(.var 0), (.var 2)]),
  .ret (.call "room_left" [(.var 0), (.var 1), (.var 2)])]
abbrev N_weak_fences : List Str := ["net", "wishes", "fence"]
def c_weak_fences : List CS := [
  .exp (.call "need_wishes" [(.var 0), (.var 1)]),
  .ret (.comp (.var 2) (.nm 2) (.seq (.call "fences" [(.var 0)])) (some (.cmp .lt (.call "room_left" [(.var 0), (.var 1), (.var 2)]) (.int 0))) [("fence", 2)])]
abbrev N_tight_fences : List Str := ["net", "wishes", "fence"]
def c_tight_fences : List CS := [
  .exp (.call "need_wishes" [(.var 0), (.var 1)]),
  .ret (.comp (.var 2) (.nm 2) (.seq (.call "fences" [(.var 0)])) (some (.cmp .eq (.call "room_left" [(.var 0), (.var 1), (.var 2)]) (.int 0))) [("fence", 2)])]
abbrev N_first_weak : List Str := ["net", "wishes", "weak"]
def c_first_weak : List CS := [
  .asg (.nm 2) (.call "weak_fences" [(.var 0), (.var 1)]),
  .ret (.ite (.var 2) (.idx (.var 2) (.int 0)) .non)]
abbrev N_widths_at : List Str := ["net"]
def c_widths_at : List CS := [
  .exp (.call "need_net" [(.var 0)]),
  .ret (.bi .tuple [(.call "sums_at" [(.idx (.var 0) (.int 0)), (.idx (.var 0) (.int 1))])])]
abbrev N__law_fences : List Str := ["points", "rows", "point", "row"]
def c__law_fences : List CS := [
  .asg (.nm 1) (.lst [(.tup [])]),
  .for_ (.nm 2) (.rng2 (.int 1) (.var 0)) [.asg (.nm 1) (.bin .add (.var 1) (.comp (.bin .add (.var 3) (.tup [(.var 2)])) (.nm 3) (.seq (.var 1)) none [("row", 3)]))],
  .ret (.bi .sorted [(.comp (.var 3) (.nm 3) (.seq (.var 1)) (some (.cmp .ne (.var 3) (.tup []))) [("row", 3)])])]
abbrev N__law_across : List Str := ["links", "fence", "link", "point"]
def c__law_across : List CS := [
  .ret (.bi .sum [(.comp (.idx (.var 2) (.int 2)) (.nm 2) (.seq (.var 0)) (some (.cmp .eq (.bi .len [(.comp (.var 3) (.nm 3) (.seq (.sli (.var 2) none (some (.int 2)))) (some (.cmp .mem (.var 3) (.var 1))) [("point", 3)])]) (.int 1))) [("link", 2)])])]
abbrev N__law_twice : List Str := ["turns", "found", "turn"]
def c__law_twice : List CS := [
  .asg (.nm 1) (.int 1),
  .for_ (.nm 2) (.rng1 (.var 0)) [.asg (.nm 1) (.bin .mul (.int 2) (.var 1))],
  .ret (.var 1)]
abbrev N__law_more : List Str := ["links", "at", "link"]
def c__law_more : List CS := [
  .asg (.nm 2) (.idx (.var 0) (.var 1)),
  .ret (.bin .add (.bin .add (.sli (.var 0) none (some (.var 1))) (.tup [(.bin .add (.sli (.var 2) none (some (.int 2))) (.tup [(.bin .add (.idx (.var 2) (.int 2)) (.int 1))]))])) (.sli (.var 0) (some (.bin .add (.var 1) (.int 1))) none))]
abbrev N__law_between : List Str := ["roads", "first", "second", "there", "road"]
def c__law_between : List CS := [
  .asg (.nm 3) (.comp (.idx (.var 4) (.int 2)) (.nm 4) (.seq (.var 0)) (some (.and (.cmp .mem (.idx (.var 4) (.int 0)) (.var 1)) (.cmp .mem (.idx (.var 4) (.int 1)) (.var 2)))) [("road", 4)]),
  .ret (.bi .sum [(.bin .add (.var 3) (.comp (.idx (.var 4) (.int 2)) (.nm 4) (.seq (.var 0)) (some (.and (.cmp .mem (.idx (.var 4) (.int 1)) (.var 1)) (.cmp .mem (.idx (.var 4) (.int 0)) (.var 2)))) [("road", 4)]))])]
abbrev N__law_width : List Str := ["net", "points"]
def c__law_width : List CS := [
  .ret (.ite (.cmp .eq (.var 1) (.tup [])) (.int 0) (.call "width" [(.var 0), (.var 1)]))]
abbrev N_need_two_points : List Str := ["net", "one", "other"]
def c_need_two_points : List CS := [
  .ife (.not (.call "is_within" [(.var 1), (.int 0), (.bin .sub (.idx (.var 0) (.int 0)) (.int 1))])) [.stop] [],
  .ife (.not (.call "is_within" [(.var 2), (.bin .add (.var 1) (.int 1)), (.bin .sub (.idx (.var 0) (.int 0)) (.int 1))])) [.stop] []]
abbrev N_has_more : List Str := ["links", "most", "link"]
def c_has_more : List CS := [
  .ret (.bi .any [(.comp (.cmp .gt (.idx (.var 2) (.int 2)) (.var 1)) (.nm 2) (.seq (.var 0)) none [("link", 2)])])]
abbrev N_put_together : List Str := ["net", "wishes", "one", "other", "points", "roads", "places", "new_roads", "new_wishes", "point"]
def c_put_together : List CS := [
  .exp (.call "need_wishes" [(.var 0), (.var 1)]),
  .exp (.call "need_two_points" [(.var 0), (.var 2), (.var 3)]),
  .asg (.tp [4, 5]) (.var 0),
  .ife (.cmp .eq (.var 4) (.int 2)) [.stop] [],
  .asgO 6 (.comp (.ite (.cmp .gt (.var 9) (.var 3)) (.bin .sub (.var 9) (.int 1)) (.var 9)) (.nm 9) (.rng1 (.var 4)) none [("point", 9)]),
  .setI 6 (.var 3) (.var 2),
  .par 7 8 (.call "moved" [(.var 5), (.var 6)]) (.call "moved" [(.var 1), (.var 6)]),
  .ife (.call "has_more" [(.var 7), (.glo "MOST_WIDTH")]) [.stop] [],
  .ife (.call "has_more" [(.var 8), (.glo "MOST_AMOUNT")]) [.stop] [],
  .ret (.tup [(.tup [(.bin .sub (.var 4) (.int 1)), (.var 7)]), (.var 8)])]
abbrev N__law_path : List Str := ["stream", "points", "left", "path", "turn"]
def c__law_path : List CS := [
  .asgO 2 (.rg1 false (.var 1)),
  .pop (some 3) [.tuple] 2 (.call "_law_next" [(.var 0), (.bi .len [(.var 2)])]) 4 (.rng1 (.bin .add (.int 2) (.call "_law_next" [(.var 0), (.bin .sub (.var 1) (.int 1))]))) [("turn", 4)],
  .ret (.ite (.cmp .lt (.idx (.var 3) (.int 0)) (.idx (.var 3) (.neg (.int 1)))) (.var 3) (.rev (.var 3)))]
abbrev N__law_pairs : List Str := ["path", "k"]
def c__law_pairs : List CS := [
  .ret (.comp (.bi .tuple [(.bi .sorted [(.sli (.var 0) (some (.var 1)) (some (.bin .add (.var 1) (.int 2))))])]) (.nm 1) (.rng1 (.bin .sub (.bi .len [(.var 0)]) (.int 1))) none [("k", 1)])]
abbrev N__law_crossed : List Str := ["path", "fence", "pair"]
def c__law_crossed : List CS := [
  .ret (.bi .len [(.comp (.var 2) (.nm 2) (.seq (.call "_law_pairs" [(.var 0)])) (some (.cmp .ne (.cmp .mem (.idx (.var 2) (.int 0)) (.var 1)) (.cmp .mem (.idx (.var 2) (.int 1)) (.var 1)))) [("pair", 2)])])]
abbrev N_odd_points : List Str := ["net", "wishes", "sums", "point"]
def c_odd_points : List CS := [
  .exp (.call "need_wishes" [(.var 0), (.var 1)]),
  .asg (.nm 2) (.call "sums_at" [(.idx (.var 0) (.int 0)), (.bin .add (.idx (.var 0) (.int 1)) (.var 1))]),
  .ret (.bi .tuple [(.comp (.var 3) (.nm 3) (.rng1 (.idx (.var 0) (.int 0))) (some (.cmp .eq (.bin .mod (.idx (.var 2) (.var 3)) (.int 2)) (.int 1))) [("point", 3)])])]
abbrev N__law_parts : List Str := ["points", "roads", "least", "turn", "road", "low", "rows", "point", "row"]
def c__law_parts : List CS := [
  .asgO 2 (.rg1 false (.var 0)),
  .for_ (.nm 3) (.rng1 (.var 0)) [.for_ (.nm 4) (.seq (.var 1)) [.asg (.nm 5) (.bi .min2 [(.idx (.var 2) (.idx (.var 4) (.int 0))), (.idx (.var 2) (.idx (.var 4) (.int 1)))]), .setI 2 (.idx (.var 4) (.int 0)) (.var 5), .setI 2 (.idx (.var 4) (.int 1)) (.var 5)]],
  .asg (.nm 6) (.comp (.bi .tuple [(.comp (.var 7) (.nm 7) (.rng1 (.var 0)) (some (.cmp .eq (.idx (.var 2) (.var 7)) (.var 5))) [("point", 7)])]) (.nm 5) (.rng1 (.var 0)) none [("low", 5)]),
  .ret (.bi .tuple [(.comp (.var 8) (.nm 8) (.seq (.var 6)) (some (.cmp .ne (.var 8) (.tup []))) [("row", 8)])])]
abbrev N_is_order : List Str := ["value", "points", "item"]
def c_is_order : List CS := [
  .ife (.not (.call "is_tuple" [(.var 0), (.var 1), (.var 1)])) [.ret (.bl false)] [],
  .ife (.not (.bi .all [(.comp (.call "is_within" [(.var 2), (.int 0), (.bin .sub (.var 1) (.int 1))]) (.nm 2) (.seq (.var 0)) none [("item", 2)])])) [.ret (.bl false)] [],
  .ret (.cmp .eq (.bi .sorted [(.var 0)]) (.rg1 false (.var 1)))]
abbrev N_renamed : List Str := ["net", "wishes", "order", "points", "roads"]
def c_renamed : List CS := [
  .exp (.call "need_wishes" [(.var 0), (.var 1)]),
  .asg (.tp [3, 4]) (.var 0),
  .ife (.not (.call "is_order" [(.var 2), (.var 3)])) [.stop] [],
  .ret (.tup [(.tup [(.var 3), (.call "moved" [(.var 4), (.var 2)])]), (.call "moved" [(.var 1), (.var 2)])])]
abbrev N__law_shuffled : List Str := ["stream", "many", "left", "k"]
def c__law_shuffled : List CS := [
  .asgO 2 (.rg1 false (.var 1)),
  .pop none [.tuple] 2 (.call "_law_next" [(.var 0), (.bi .len [(.var 2)])]) 3 (.rng1 (.var 1)) [("k", 3)]]
abbrev N__law_renamed : List Str := ["links", "order", "rows", "link", "row"]
def c__law_renamed : List CS := [
  .asg (.nm 2) (.comp (.bin .add (.bi .sorted [(.lst [(.idx (.var 1) (.idx (.var 3) (.int 0))), (.idx (.var 1) (.idx (.var 3) (.int 1)))])]) (.lst [(.idx (.var 3) (.int 2))])) (.nm 3) (.seq (.var 0)) none [("link", 3)]),
  .ret (.bi .tuple [(.bi .sorted [(.comp (.bi .tuple [(.var 4)]) (.nm 4) (.seq (.var 2)) none [("row", 4)])])])]
abbrev N__law_new : List Str := ["point", "one", "other"]
def c__law_new : List CS := [
  .ife (.cmp .eq (.var 0) (.var 2)) [.ret (.var 1)] [],
  .ret (.bin .sub (.var 0) (.bi .int [(.cmp .gt (.var 0) (.var 2))]))]
abbrev N__law_joined : List Str := ["points", "links", "one", "other", "found", "low", "high", "rows", "link"]
def c__law_joined : List CS := [
  .asgO 4 (.lst []),
  .for_ (.nm 5) (.rng1 (.bin .sub (.var 0) (.int 1))) [.for_ (.nm 6) (.rng2 (.bin .add (.var 5) (.int 1)) (.bin .sub (.var 0) (.int 1))) [.asg (.nm 7) (.comp (.idx (.var 8) (.int 2)) (.nm 8) (.seq (.var 1)) (some (.cmp .eq (.bi .sorted [(.lst [(.call "_law_new" [(.idx (.var 8) (.int 0)), (.var 2), (.var 3)]), (.call "_law_new" [(.idx (.var 8) (.int 1)), (.var 2), (.var 3)])])]) (.lst [(.var 5), (.var 6)]))) [("link", 8)]), .ife (.var 7) [.app 4 (.tup [(.var 5), (.var 6), (.bi .sum [(.var 7)])])] []]],
  .ret (.bi .tuple [(.var 4)])]
abbrev N__law_due : List Str := ["net", "wishes", "one", "other", "roads", "left", "road", "wish"]
def c__law_due : List CS := [
  .asg (.nm 4) (.call "_law_joined" [(.idx (.var 0) (.int 0)), (.idx (.var 0) (.int 1)), (.var 2), (.var 3)]),
  .asg (.nm 5) (.call "_law_joined" [(.idx (.var 0) (.int 0)), (.var 1), (.var 2), (.var 3)]),
  .ife (.cmp .eq (.idx (.var 0) (.int 0)) (.int 2)) [.ret (.lst [(.str "not"), (.str "two"), (.bl true)])] [],
  .ife (.bi .any [(.comp (.cmp .gt (.idx (.var 6) (.int 2)) (.int 6)) (.nm 6) (.seq (.var 4)) none [("road", 6)])]) [.ret (.lst [(.str "large"), (.str "width"), (.bl true)])] [],
  .ife (.bi .any [(.comp (.cmp .gt (.idx (.var 7) (.int 2)) (.int 6)) (.nm 7) (.seq (.var 5)) none [("wish", 7)])]) [.ret (.lst [(.str "large"), (.str "amount"), (.bl true)])] [],
  .ret (.tup [(.tup [(.bin .sub (.idx (.var 0) (.int 0)) (.int 1)), (.var 4)]), (.var 5)])]
abbrev N_parting_fences : List Str := ["net", "pairs", "fence", "one", "other"]
def c_parting_fences : List CS := [
  .ret (.comp (.var 2) (.nm 2) (.seq (.call "fences" [(.var 0)])) (some (.bi .all [(.comp (.call "is_parted" [(.var 2), (.var 3), (.var 4)]) (.tp [3, 4]) (.seq (.var 1)) none [("one", 3), ("other", 4)])])) [("fence", 2)])]
abbrev N_narrowest : List Str := ["net", "pairs", "found", "widths", "least", "fence", "wide"]
def c_narrowest : List CS := [
  .asg (.nm 2) (.call "parting_fences" [(.var 0), (.var 1)]),
  .asg (.nm 3) (.comp (.call "crossing" [(.idx (.var 0) (.int 1)), (.var 5)]) (.nm 5) (.seq (.var 2)) none [("fence", 5)]),
  .asg (.nm 4) (.bi .min1 [(.var 3)]),
  .ret (.comp (.var 5) (.tp [5, 6]) (.zip (.var 2) (.var 3)) (some (.cmp .eq (.var 6) (.var 4))) [("fence", 5), ("wide", 6)])]
abbrev N_need_between : List Str := ["net", "one", "other"]
def c_need_between : List CS := [
  .exp (.call "need_net" [(.var 0)]),
  .exp (.call "need_two_points" [(.var 0), (.var 1), (.var 2)])]
abbrev N_side_of : List Str := ["net", "fence", "one", "point"]
def c_side_of : List CS := [
  .ret (.comp (.var 3) (.nm 3) (.rng1 (.idx (.var 0) (.int 0))) (some (.not (.call "is_parted" [(.var 1), (.var 3), (.var 2)]))) [("point", 3)])]
abbrev N_least_fences : List Str := ["net", "one", "other"]
def c_least_fences : List CS := [
  .exp (.call "need_between" [(.var 0), (.var 1), (.var 2)]),
  .ret (.call "narrowest" [(.var 0), (.lst [(.tup [(.var 1), (.var 2)])])])]
abbrev N_sides : List Str := ["net", "one", "other", "found", "near", "far", "fence", "point", "side"]
def c_sides : List CS := [
  .asg (.nm 3) (.comp (.call "side_of" [(.var 0), (.var 6), (.var 1)]) (.nm 6) (.seq (.call "least_fences" [(.var 0), (.var 1), (.var 2)])) none [("fence", 6)]),
  .asg (.nm 4) (.comp (.var 7) (.nm 7) (.rng1 (.idx (.var 0) (.int 0))) (some (.bi .all [(.comp (.cmp .mem (.var 7) (.var 8)) (.nm 8) (.seq (.var 3)) none [("side", 8)])])) [("point", 7)]),
  .asg (.nm 5) (.comp (.var 7) (.nm 7) (.rng1 (.idx (.var 0) (.int 0))) (some (.bi .any [(.comp (.cmp .mem (.var 7) (.var 8)) (.nm 8) (.seq (.var 3)) none [("side", 8)])])) [("point", 7)]),
  .ret (.tup [(.bi .tuple [(.var 4)]), (.bi .tuple [(.var 5)])])]
abbrev N__law_pairs_v2 : List Str := ["points", "found", "one", "other"]
def c__law_pairs_v2 : List CS := [
  .asg (.nm 1) (.lst []),
  .for_ (.nm 2) (.rng1 (.var 0)) [.asg (.nm 1) (.bin .add (.var 1) (.comp (.tup [(.var 2), (.var 3)]) (.nm 3) (.rng2 (.bin .add (.var 2) (.int 1)) (.var 0)) none [("other", 3)]))],
  .ret (.var 1)]
abbrev N__law_net : List Str := ["stream", "high", "points", "roads", "pair"]
def c__law_net : List CS := [
  .asg (.nm 2) (.bin .add (.int 2) (.call "_law_next" [(.var 0), (.bin .sub (.var 1) (.int 1))])),
  .asgO 3 (.lst []),
  .for_ (.nm 4) (.seq (.call "_law_pairs" [(.var 2)])) [.ife (.and (.cmp .gt (.call "_law_next" [(.var 0), (.int 3)]) (.int 0)) (.cmp .lt (.bi .len [(.var 3)]) (.int 15))) [.app 3 (.bin .add (.var 4) (.tup [(.bin .add (.int 1) (.call "_law_next" [(.var 0), (.int 6)]))]))] []],
  .ret (.tup [(.var 2), (.bi .tuple [(.var 3)])])]
abbrev N__law_fences_v2 : List Str := ["points", "found", "point", "row"]
def c__law_fences_v2 : List CS := [
  .asg (.nm 1) (.lst [(.tup [])]),
  .for_ (.nm 2) (.rng2 (.int 1) (.var 0)) [.asg (.nm 1) (.bin .add (.var 1) (.comp (.bin .add (.var 3) (.tup [(.var 2)])) (.nm 3) (.seq (.var 1)) none [("row", 3)]))],
  .ret (.sli (.bi .sorted [(.var 1)]) (some (.int 1)) none)]
abbrev N__law_crosses : List Str := ["fence", "pair"]
def c__law_crosses : List CS := [
  .ret (.cmp .ne (.cmp .mem (.idx (.var 1) (.int 0)) (.var 0)) (.cmp .mem (.idx (.var 1) (.int 1)) (.var 0)))]
abbrev N__law_width_v2 : List Str := ["net", "fence", "road"]
def c__law_width_v2 : List CS := [
  .ret (.bi .sum [(.comp (.idx (.var 2) (.int 2)) (.nm 2) (.seq (.idx (.var 0) (.int 1))) (some (.call "_law_crosses" [(.var 1), (.var 2)])) [("road", 2)])])]
abbrev N__law_least : List Str := ["net", "pairs", "found", "least", "fence", "pair"]
def c__law_least : List CS := [
  .asg (.nm 2) (.comp (.var 4) (.nm 4) (.seq (.call "_law_fences" [(.idx (.var 0) (.int 0))])) (some (.bi .all [(.comp (.call "_law_crosses" [(.var 4), (.var 5)]) (.nm 5) (.seq (.var 1)) none [("pair", 5)])])) [("fence", 4)]),
  .asg (.nm 3) (.bi .min1 [(.comp (.call "_law_width" [(.var 0), (.var 4)]) (.nm 4) (.seq (.var 2)) none [("fence", 4)])]),
  .ret (.lst [(.var 3), (.comp (.var 4) (.nm 4) (.seq (.var 2)) (some (.cmp .eq (.call "_law_width" [(.var 0), (.var 4)]) (.var 3))) [("fence", 4)])])]
abbrev N_most : List Str := ["net", "one", "other"]
def c_most : List CS := [
  .exp (.call "need_between" [(.var 0), (.var 1), (.var 2)]),
  .ret (.call "crossing" [(.idx (.var 0) (.int 1)), (.idx (.call "narrowest" [(.var 0), (.lst [(.tup [(.var 1), (.var 2)])])]) (.int 0))])]
abbrev N_narrower_roads : List Str := ["net", "one", "other", "least", "crossed", "road", "fence", "index", "some"]
def c_narrower_roads : List CS := [
  .asg (.nm 3) (.call "least_fences" [(.var 0), (.var 1), (.var 2)]),
  .asg (.nm 4) (.comp (.bi .any [(.comp (.call "is_parted" [(.var 6), (.idx (.var 5) (.int 0)), (.idx (.var 5) (.int 1))]) (.nm 6) (.seq (.var 3)) none [("fence", 6)])]) (.nm 5) (.seq (.idx (.var 0) (.int 1))) none [("road", 5)]),
  .ret (.bi .tuple [(.comp (.var 7) (.tp [7, 8]) (.enum (.var 4)) (some (.var 8)) [("index", 7), ("some", 8)])])]
abbrev N_wider_roads : List Str := ["net", "one", "other", "least", "crossed", "road", "fence", "index", "every"]
def c_wider_roads : List CS := [
  .asg (.nm 3) (.call "least_fences" [(.var 0), (.var 1), (.var 2)]),
  .asg (.nm 4) (.comp (.bi .all [(.comp (.call "is_parted" [(.var 6), (.idx (.var 5) (.int 0)), (.idx (.var 5) (.int 1))]) (.nm 6) (.seq (.var 3)) none [("fence", 6)])]) (.nm 5) (.seq (.idx (.var 0) (.int 1))) none [("road", 5)]),
  .ret (.bi .tuple [(.comp (.var 7) (.tp [7, 8]) (.enum (.var 4)) (some (.var 8)) [("index", 7), ("every", 8)])])]
abbrev N__law_changed_v2 : List Str := ["net", "at", "more", "one", "other", "width", "row"]
def c__law_changed_v2 : List CS := [
  .asg (.tp [3, 4, 5]) (.idx (.idx (.var 0) (.int 1)) (.var 1)),
  .asg (.nm 6) (.tup [(.tup [(.var 3), (.var 4), (.bin .add (.var 5) (.var 2))])]),
  .ife (.cmp .eq (.bin .add (.var 5) (.var 2)) (.int 0)) [.asg (.nm 6) (.tup [])] [],
  .ret (.tup [(.idx (.var 0) (.int 0)), (.bin .add (.bin .add (.sli (.idx (.var 0) (.int 1)) none (some (.var 1))) (.var 6)) (.sli (.idx (.var 0) (.int 1)) (some (.bin .add (.var 1) (.int 1))) none))])]
abbrev N_need_pairs : List Str := ["net", "pair", "other"]
def c_need_pairs : List CS := [
  .exp (.call "need_net" [(.var 0)]),
  .ife (.not (.call "is_pair" [(.var 1), (.idx (.var 0) (.int 0))])) [.stop] [],
  .ife (.or (.not (.call "is_pair" [(.var 2), (.idx (.var 0) (.int 0))])) (.cmp .eq (.var 2) (.var 1))) [.stop] []]
abbrev N_bounds : List Str := ["net", "pair", "other", "first", "second", "both"]
def c_bounds : List CS := [
  .asg (.tp [3, 4, 5]) (.call "bound_fences" [(.var 0), (.var 1), (.var 2)]),
  .ret (.tup [(.call "crossing" [(.idx (.var 0) (.int 1)), (.var 3)]), (.call "crossing" [(.idx (.var 0) (.int 1)), (.var 4)]), (.call "crossing" [(.idx (.var 0) (.int 1)), (.var 5)])])]
abbrev N_bound_fences : List Str := ["net", "pair", "other"]
def c_bound_fences : List CS := [
  .exp (.call "need_pairs" [(.var 0), (.var 1), (.var 2)]),
  .ret (.tup [(.idx (.call "narrowest" [(.var 0), (.lst [(.var 1)])]) (.int 0)), (.idx (.call "narrowest" [(.var 0), (.lst [(.var 2)])]) (.int 0)), (.idx (.call "narrowest" [(.var 0), (.lst [(.var 1), (.var 2)])]) (.int 0))])]
abbrev N__law_two : List Str := ["stream", "low", "high", "points", "roads", "pair", "pairs", "at", "more"]
def c__law_two : List CS := [
  .asg (.nm 3) (.bin .add (.var 1) (.call "_law_next" [(.var 0), (.bin .add (.bin .sub (.var 2) (.var 1)) (.int 1))])),
  .asgO 4 (.lst []),
  .for_ (.nm 5) (.seq (.call "_law_pairs" [(.var 3)])) [.ife (.and (.cmp .gt (.call "_law_next" [(.var 0), (.int 3)]) (.int 0)) (.cmp .lt (.bi .len [(.var 4)]) (.int 15))) [.app 4 (.bin .add (.var 5) (.tup [(.bin .add (.int 1) (.call "_law_next" [(.var 0), (.int 6)]))]))] []],
  .asg (.nm 6) (.call "_law_pairs" [(.var 3)]),
  .asg (.nm 7) (.call "_law_next" [(.var 0), (.bi .len [(.var 6)])]),
  .asg (.nm 8) (.bin .mod (.bi .int [(.bin .add (.bin .add (.var 7) (.int 1)) (.call "_law_next" [(.var 0), (.bin .sub (.bi .len [(.var 6)]) (.int 1))]))]) (.bi .len [(.var 6)])),
  .ret (.lst [(.tup [(.var 3), (.bi .tuple [(.var 4)])]), (.idx (.var 6) (.var 7)), (.idx (.var 6) (.var 8))])]
abbrev N_most_beside : List Str := ["net", "pair", "other", "amount", "first", "second", "both"]
def c_most_beside : List CS := [
  .exp (.call "need_pairs" [(.var 0), (.var 1), (.var 2)]),
  .ife (.not (.call "is_within" [(.var 3), (.int 0), (.glo "MOST_ASKED")])) [.stop] [],
  .asg (.tp [4, 5, 6]) (.call "bounds" [(.var 0), (.var 1), (.var 2)]),
  .ife (.cmp .gt (.var 3) (.var 5)) [.stop] [],
  .ret (.bi .min2 [(.var 4), (.bin .sub (.var 6) (.var 3))])]
abbrev N_greatest_amounts : List Str := ["net", "pair", "other", "first", "second", "both", "amount"]
def c_greatest_amounts : List CS := [
  .asg (.tp [3, 4, 5]) (.call "bounds" [(.var 0), (.var 1), (.var 2)]),
  .ret (.comp (.tup [(.var 6), (.bin .sub (.var 5) (.var 6))]) (.nm 6) (.rng2 (.bin .sub (.var 5) (.var 4)) (.bin .add (.var 3) (.int 1))) none [("amount", 6)])]
abbrev N_count_amounts : List Str := ["net", "pair", "other", "first", "second", "both", "spare"]
def c_count_amounts : List CS := [
  .asg (.tp [3, 4, 5]) (.call "bounds" [(.var 0), (.var 1), (.var 2)]),
  .asg (.nm 6) (.bin .sub (.bin .add (.var 3) (.var 4)) (.var 5)),
  .ret (.bin .sub (.bin .mul (.bin .add (.var 3) (.int 1)) (.bin .add (.var 4) (.int 1))) (.bin .fdiv (.bin .mul (.var 6) (.bin .add (.var 6) (.int 1))) (.int 2)))]
abbrev N__law_bounds : List Str := ["net", "pair", "other"]
def c__law_bounds : List CS := [
  .ret (.lst [(.idx (.call "_law_least" [(.var 0), (.lst [(.var 1)])]) (.int 0)), (.idx (.call "_law_least" [(.var 0), (.lst [(.var 2)])]) (.int 0)), (.idx (.call "_law_least" [(.var 0), (.lst [(.var 1), (.var 2)])]) (.int 0))])]
abbrev N__law_go : List Str := ["three", "amounts"]
def c__law_go : List CS := [
  .ret (.and (.cmp .le (.idx (.var 1) (.int 0)) (.idx (.var 0) (.int 0))) (.and (.cmp .le (.idx (.var 1) (.int 1)) (.idx (.var 0) (.int 1))) (.cmp .le (.bin .add (.idx (.var 1) (.int 0)) (.idx (.var 1) (.int 1))) (.idx (.var 0) (.int 2)))))]
abbrev N_reduced : List Str := ["upper", "lower", "common"]
def c_reduced : List CS := [
  .asg (.nm 2) (.gcd (.var 0) (.var 1)),
  .ret (.tup [(.bin .fdiv (.var 0) (.var 2)), (.bin .fdiv (.var 1) (.var 2))])]
abbrev N_need_ends : List Str := ["net", "ends"]
def c_need_ends : List CS := [
  .exp (.call "need_net" [(.var 0)]),
  .ife (.or (.not (.call "is_tuple" [(.var 1), (.glo "LEAST_ENDS"), (.glo "MOST_ENDS")])) (.not (.call "are_rising" [(.var 1), (.int 0), (.bin .sub (.idx (.var 0) (.int 0)) (.int 1))]))) [.stop] []]
abbrev N_is_parting : List Str := ["ends", "end", "fence", "inside", "point"]
def c_is_parting : List CS := [
  .asg (.nm 3) (.comp (.var 4) (.nm 4) (.seq (.var 0)) (some (.cmp .mem (.var 4) (.var 2))) [("point", 4)]),
  .ret (.or (.cmp .eq (.var 3) (.lst [(.var 1)])) (.cmp .eq (.var 3) (.comp (.var 4) (.nm 4) (.seq (.var 0)) (some (.cmp .ne (.var 4) (.var 1))) [("point", 4)])))]
abbrev N_parting_end : List Str := ["points", "ends", "end", "fence"]
def c_parting_end : List CS := [
  .ret (.comp (.var 3) (.nm 3) (.seq (.call "fences" [(.tup [(.var 0), (.tup [])])])) (some (.call "is_parting" [(.var 1), (.var 2), (.var 3)])) [("fence", 3)])]
abbrev N_reach_of : List Str := ["net", "ends", "end", "fence"]
def c_reach_of : List CS := [
  .ret (.bi .mind [(.comp (.tup [(.call "crossing" [(.idx (.var 0) (.int 1)), (.var 3)]), (.var 3)]) (.nm 3) (.seq (.call "parting_end" [(.idx (.var 0) (.int 0)), (.var 1), (.var 2)])) none [("fence", 3)])])]
abbrev N_reach : List Str := ["net", "ends", "end"]
def c_reach : List CS := [
  .exp (.call "need_ends" [(.var 0), (.var 1)]),
  .ife (.or (.cmp .ne (.bi .type [(.var 2)]) (.ty "int")) (.cmp .nmem (.var 2) (.var 1))) [.stop] [],
  .ret (.call "reach_of" [(.var 0), (.var 1), (.var 2)])]
abbrev N_greatest_total : List Str := ["net", "ends", "end"]
def c_greatest_total : List CS := [
  .exp (.call "need_ends" [(.var 0), (.var 1)]),
  .ret (.call "reduced" [(.bi .sum [(.comp (.idx (.call "reach_of" [(.var 0), (.var 1), (.var 2)]) (.int 0)) (.nm 2) (.seq (.var 1)) none [("end", 2)])]), (.int 2)])]
abbrev N__law_net_v3 : List Str := ["stream", "points", "most", "pairs", "one", "roads", "k", "pair", "other", "road"]
def c__law_net_v3 : List CS := [
  .asg (.nm 3) (.lst []),
  .for_ (.nm 4) (.rng1 (.var 1)) [.asg (.nm 3) (.bin .add (.var 3) (.comp (.tup [(.var 4), (.var 8)]) (.nm 8) (.rng2 (.bin .add (.var 4) (.int 1)) (.var 1)) none [("other", 8)]))],
  .asgO 5 (.lst []),
  .for_ (.nm 6) (.rng1 (.call "_law_next" [(.var 0), (.int 10)])) [.asg (.nm 7) (.idx (.var 3) (.call "_law_next" [(.var 0), (.bi .len [(.var 3)])])), .ife (.cmp .nmem (.var 7) (.comp (.sli (.var 9) none (some (.int 2))) (.nm 9) (.seq (.var 5)) none [("road", 9)])) [.app 5 (.bin .add (.var 7) (.tup [(.bin .add (.int 1) (.call "_law_next" [(.var 0), (.var 2)]))]))] []],
  .ret (.tup [(.var 1), (.bi .tuple [(.bi .sorted [(.var 5)])])])]
abbrev N__law_ends : List Str := ["stream", "points", "left", "many", "k"]
def c__law_ends : List CS := [
  .asgO 2 (.rg1 false (.var 1)),
  .asg (.nm 3) (.bin .add (.int 2) (.call "_law_next" [(.var 0), (.bin .sub (.bi .min2 [(.int 5), (.var 1)]) (.int 1))])),
  .pop none [.tuple, .sorted] 2 (.call "_law_next" [(.var 0), (.bi .len [(.var 2)])]) 4 (.rng1 (.var 3)) [("k", 4)]]
abbrev N__law_sides : List Str := ["points", "rows", "point", "row"]
def c__law_sides : List CS := [
  .asg (.nm 1) (.lst [(.tup [])]),
  .for_ (.nm 2) (.rng2 (.int 1) (.var 0)) [.asg (.nm 1) (.bin .add (.var 1) (.comp (.bin .add (.var 3) (.tup [(.var 2)])) (.nm 3) (.seq (.var 1)) none [("row", 3)]))],
  .ret (.sli (.bi .sorted [(.var 1)]) (some (.int 1)) none)]
abbrev N__law_over : List Str := ["links", "side", "link"]
def c__law_over : List CS := [
  .ret (.bi .sum [(.comp (.idx (.var 2) (.int 2)) (.nm 2) (.seq (.var 0)) (some (.cmp .ne (.cmp .mem (.idx (.var 2) (.int 0)) (.var 1)) (.cmp .mem (.idx (.var 2) (.int 1)) (.var 1)))) [("link", 2)])])]
abbrev N__law_parts_v3 : List Str := ["side", "ends", "end", "one"]
def c__law_parts_v3 : List CS := [
  .ife (.cmp .mem (.var 2) (.var 0)) [.ret (.cmp .eq (.bi .len [(.comp (.var 3) (.nm 3) (.seq (.var 1)) (some (.cmp .mem (.var 3) (.var 0))) [("one", 3)])]) (.int 1))] [],
  .ret (.bi .all [(.comp (.cmp .mem (.var 3) (.var 0)) (.nm 3) (.seq (.var 1)) (some (.cmp .ne (.var 3) (.var 2))) [("one", 3)])])]
abbrev N__law_reach : List Str := ["net", "ends", "end", "side"]
def c__law_reach : List CS := [
  .ret (.bi .mind [(.comp (.tup [(.call "_law_over" [(.idx (.var 0) (.int 1)), (.var 3)]), (.var 3)]) (.nm 3) (.seq (.call "_law_sides" [(.idx (.var 0) (.int 0))])) (some (.call "_law_parts" [(.var 3), (.var 1), (.var 2)])) [("side", 3)])])]
abbrev N__law_half : List Str := ["number"]
def c__law_half : List CS := [
  .ife (.cmp .eq (.bin .mod (.var 0) (.int 2)) (.int 0)) [.ret (.tup [(.bin .fdiv (.var 0) (.int 2)), (.int 1)])] [],
  .ret (.tup [(.var 0), (.int 2)])]
end Ws.P

/-! Ws20: what the forms of nets, wishes, fences are worth. -/
namespace Ws
open PySem PySem.Spec L2

/- plain values -/
mutual
def PV.pl : PV → Bool
  | .non => true | .bl _ => true | .int _ => true | .str _ => true
  | .tup l => PV.pls l
  | .lst l => PV.pls l
  | _ => false
def PV.pls : List PV → Bool
  | [] => true
  | x :: xs => PV.pl x && PV.pls xs
end
theorem pl_own {x : PV} (h : x.pl = true) : x.isOwn = false := by cases x <;> first | rfl | (simp [PV.pl] at h)
theorem pl_thaw {x : PV} (h : x.pl = true) : x.thaw = x := thaw_of (pl_own h)
theorem pls_all : ∀ {l : List PV}, PV.pls l = true → ∀ x ∈ l, x.pl = true
  | [], _, x, h => by simp at h
  | y :: l, h, x, m => by
    simp only [PV.pls, Bool.and_eq_true] at h
    rcases List.mem_cons.mp m with e | m
    · rw [e]; exact h.1
    · exact pls_all h.2 x m
theorem pls_of : ∀ {l : List PV}, (∀ x ∈ l, x.pl = true) → PV.pls l = true
  | [], _ => rfl
  | y :: l, h => by
    simp only [PV.pls, Bool.and_eq_true]
    exact ⟨h y List.mem_cons_self, pls_of fun x m => h x (List.mem_cons_of_mem _ m)⟩
theorem pl_tup {l : List PV} : (PV.tup l).pl = PV.pls l := by simp [PV.pl]
theorem pl_lst {l : List PV} : (PV.lst l).pl = PV.pls l := by simp [PV.pl]
theorem pl_int {i : Int} : (PV.int i).pl = true := by simp [PV.pl]
theorem pl_bl {i : Bool} : (PV.bl i).pl = true := by simp [PV.pl]

theorem kn_int : knownTy "int" = true := by decide +kernel
theorem kn_tuple : knownTy "tuple" = true := by decide +kernel
theorem ty_eq {n m : String} (h : knownTy n = true) (h' : knownTy m = true) : cmpV .eq (.ty n) (.ty m) = some (n == m) := by
  show (if knownTy n && knownTy m then some (n == m) else none) = _
  rw [h, h']; rfl
theorem ty_not {x : PV} {n m : String} (h : tyName x = some n) (hm : knownTy m = true) : (cmpV .eq (.ty n) (.ty m)) = some (n == m) := ty_eq (by cases x <;> simp only [tyName, Option.some.injEq, reduceCtorEq] at h <;> subst h <;> decide +kernel) hm
theorem sb_ii : ("int" == "int") = true := by decide +kernel
theorem sb_tt : ("tuple" == "tuple") = true := by decide +kernel

/-! ### is_within, is_tuple -/
def isW (x : PV) (l m : Int) : Bool := match x with | .int i => decide (l ≤ i) && decide (i ≤ m) | _ => false
def isT (x : PV) (l m : Int) : Bool := match x with | .tup xs => decide (l ≤ (xs.length : Int)) && decide ((xs.length : Int) ≤ m) | _ => false
def WithinOk (φ : Fn) : Prop := ∀ x l m S, x.pl = true → φ [x, .int l, .int m] S = some (.ret (.bl (isW x l m)), S)
def IsTupOk (φ : Fn) : Prop := ∀ x l m S, x.pl = true → φ [x, .int l, .int m] S = some (.ret (.bl (isT x l m)), S)
theorem within_ok {T : Tbl} : WithinOk (evF T 3 P.c_is_within) := by
  intro x l m S h
  unfold P.c_is_within
  cases x with
  | int i => simp only [evF_end, end_nx, end_rt, FU, e_non, e_bl, e_int, e_str, e_ty, e_var, getV_some, e_glo, e_tup, e_lst, e_bin, e_neg, negV_int, e_not, e_and, e_or, andV_bl, orV_bl, and_pure, or_pure, e_cmp, e_chain, e_ite, e_idx, e_sli, e_gcd, gcdV_int, e_call, callR_ret, e_bi, e_comp, l_nil, l_cons, s_nil, s_cons, then_nx, then_rt, turn_eq, ife_t, ife_f, ifeG_eq, c_asg, c_ret, c_retO, c_exp, c_ife, c_for, c_asgO, c_app, c_sset, g0, gS, st0, stS, thaw_tup, thaw_lst, thaw_own, thaw_int, thaw_bl, thaw_str, thaw_non, thaw_stm, own_tup, own_lst, own_own, own_int, own_bl, own_str, own_non, own_ty, own_stm, tru_bl, tru_int, seq_tup, seq_lst, seq_own, lst_lst, lst_own, add_int, sub_int, eq_int, ne_int, lt_int', le_int', gt_int', ge_int', ne_bl, eq_bl, idx_tup, idx_lst, idx_own, len_1, all_1, any_1, sum_1, tuple_1, list_1, sorted_1, int_1, abs_1, type_1, bind_nm, bind_tp, bind_tpl, min1_1, max1_1, mind_1, min2_1, max2_1, it_enum, enumB_lst, c_par, it_seq, it_rng1, it_rng2, rngA_int, rngB_int, it_zip, zip_tup, zip_lst, par_none, par_some, parB_int, sli_tup, sli_lst, step_none, step_some, wipe_nil, wipe_cons, List.map_cons, List.map_nil, List.length_cons, len_nil, List.all_cons, List.all_nil, List.replicate, List.cons_append, List.nil_append, List.append_nil, List.zip_cons_cons, List.zip_nil_right, List.foldl_cons, List.foldl_nil, eq_self, Option.bind_some, Option.map_some, Bool.not_false, Bool.not_true, Bool.true_and, Bool.and_true, Bool.false_and, Bool.and_false, Bool.or_true, Bool.true_or, Bool.or_false, Bool.false_or, if_true, Bool.false_eq_true, if_false, Nat.sub_self, Nat.reduceAdd, Nat.reduceSub, Nat.reduceEqDiff, ite_true, ite_false, Nat.reduceLeDiff, tyName, ty_eq kn_int kn_int, sb_ii]; rfl
  | non => simp only [evF_end, end_nx, end_rt, FU, e_non, e_bl, e_int, e_str, e_ty, e_var, getV_some, e_glo, e_tup, e_lst, e_bin, e_neg, negV_int, e_not, e_and, e_or, andV_bl, orV_bl, and_pure, or_pure, e_cmp, e_chain, e_ite, e_idx, e_sli, e_gcd, gcdV_int, e_call, callR_ret, e_bi, e_comp, l_nil, l_cons, s_nil, s_cons, then_nx, then_rt, turn_eq, ife_t, ife_f, ifeG_eq, c_asg, c_ret, c_retO, c_exp, c_ife, c_for, c_asgO, c_app, c_sset, g0, gS, st0, stS, thaw_tup, thaw_lst, thaw_own, thaw_int, thaw_bl, thaw_str, thaw_non, thaw_stm, own_tup, own_lst, own_own, own_int, own_bl, own_str, own_non, own_ty, own_stm, tru_bl, tru_int, seq_tup, seq_lst, seq_own, lst_lst, lst_own, add_int, sub_int, eq_int, ne_int, lt_int', le_int', gt_int', ge_int', ne_bl, eq_bl, idx_tup, idx_lst, idx_own, len_1, all_1, any_1, sum_1, tuple_1, list_1, sorted_1, int_1, abs_1, type_1, bind_nm, bind_tp, bind_tpl, min1_1, max1_1, mind_1, min2_1, max2_1, it_enum, enumB_lst, c_par, it_seq, it_rng1, it_rng2, rngA_int, rngB_int, it_zip, zip_tup, zip_lst, par_none, par_some, parB_int, sli_tup, sli_lst, step_none, step_some, wipe_nil, wipe_cons, List.map_cons, List.map_nil, List.length_cons, len_nil, List.all_cons, List.all_nil, List.replicate, List.cons_append, List.nil_append, List.append_nil, List.zip_cons_cons, List.zip_nil_right, List.foldl_cons, List.foldl_nil, eq_self, Option.bind_some, Option.map_some, Bool.not_false, Bool.not_true, Bool.true_and, Bool.and_true, Bool.false_and, Bool.and_false, Bool.or_true, Bool.true_or, Bool.or_false, Bool.false_or, if_true, Bool.false_eq_true, if_false, Nat.sub_self, Nat.reduceAdd, Nat.reduceSub, Nat.reduceEqDiff, ite_true, ite_false, Nat.reduceLeDiff, tyName, ty_not (x := .non) rfl kn_int, show ("NoneType" == "int") = false by decide +kernel]; rfl
  | bl b => simp only [evF_end, end_nx, end_rt, FU, e_non, e_bl, e_int, e_str, e_ty, e_var, getV_some, e_glo, e_tup, e_lst, e_bin, e_neg, negV_int, e_not, e_and, e_or, andV_bl, orV_bl, and_pure, or_pure, e_cmp, e_chain, e_ite, e_idx, e_sli, e_gcd, gcdV_int, e_call, callR_ret, e_bi, e_comp, l_nil, l_cons, s_nil, s_cons, then_nx, then_rt, turn_eq, ife_t, ife_f, ifeG_eq, c_asg, c_ret, c_retO, c_exp, c_ife, c_for, c_asgO, c_app, c_sset, g0, gS, st0, stS, thaw_tup, thaw_lst, thaw_own, thaw_int, thaw_bl, thaw_str, thaw_non, thaw_stm, own_tup, own_lst, own_own, own_int, own_bl, own_str, own_non, own_ty, own_stm, tru_bl, tru_int, seq_tup, seq_lst, seq_own, lst_lst, lst_own, add_int, sub_int, eq_int, ne_int, lt_int', le_int', gt_int', ge_int', ne_bl, eq_bl, idx_tup, idx_lst, idx_own, len_1, all_1, any_1, sum_1, tuple_1, list_1, sorted_1, int_1, abs_1, type_1, bind_nm, bind_tp, bind_tpl, min1_1, max1_1, mind_1, min2_1, max2_1, it_enum, enumB_lst, c_par, it_seq, it_rng1, it_rng2, rngA_int, rngB_int, it_zip, zip_tup, zip_lst, par_none, par_some, parB_int, sli_tup, sli_lst, step_none, step_some, wipe_nil, wipe_cons, List.map_cons, List.map_nil, List.length_cons, len_nil, List.all_cons, List.all_nil, List.replicate, List.cons_append, List.nil_append, List.append_nil, List.zip_cons_cons, List.zip_nil_right, List.foldl_cons, List.foldl_nil, eq_self, Option.bind_some, Option.map_some, Bool.not_false, Bool.not_true, Bool.true_and, Bool.and_true, Bool.false_and, Bool.and_false, Bool.or_true, Bool.true_or, Bool.or_false, Bool.false_or, if_true, Bool.false_eq_true, if_false, Nat.sub_self, Nat.reduceAdd, Nat.reduceSub, Nat.reduceEqDiff, ite_true, ite_false, Nat.reduceLeDiff, tyName, ty_not (x := .bl b) rfl kn_int, show ("bool" == "int") = false by decide +kernel]; rfl
  | str b => simp only [evF_end, end_nx, end_rt, FU, e_non, e_bl, e_int, e_str, e_ty, e_var, getV_some, e_glo, e_tup, e_lst, e_bin, e_neg, negV_int, e_not, e_and, e_or, andV_bl, orV_bl, and_pure, or_pure, e_cmp, e_chain, e_ite, e_idx, e_sli, e_gcd, gcdV_int, e_call, callR_ret, e_bi, e_comp, l_nil, l_cons, s_nil, s_cons, then_nx, then_rt, turn_eq, ife_t, ife_f, ifeG_eq, c_asg, c_ret, c_retO, c_exp, c_ife, c_for, c_asgO, c_app, c_sset, g0, gS, st0, stS, thaw_tup, thaw_lst, thaw_own, thaw_int, thaw_bl, thaw_str, thaw_non, thaw_stm, own_tup, own_lst, own_own, own_int, own_bl, own_str, own_non, own_ty, own_stm, tru_bl, tru_int, seq_tup, seq_lst, seq_own, lst_lst, lst_own, add_int, sub_int, eq_int, ne_int, lt_int', le_int', gt_int', ge_int', ne_bl, eq_bl, idx_tup, idx_lst, idx_own, len_1, all_1, any_1, sum_1, tuple_1, list_1, sorted_1, int_1, abs_1, type_1, bind_nm, bind_tp, bind_tpl, min1_1, max1_1, mind_1, min2_1, max2_1, it_enum, enumB_lst, c_par, it_seq, it_rng1, it_rng2, rngA_int, rngB_int, it_zip, zip_tup, zip_lst, par_none, par_some, parB_int, sli_tup, sli_lst, step_none, step_some, wipe_nil, wipe_cons, List.map_cons, List.map_nil, List.length_cons, len_nil, List.all_cons, List.all_nil, List.replicate, List.cons_append, List.nil_append, List.append_nil, List.zip_cons_cons, List.zip_nil_right, List.foldl_cons, List.foldl_nil, eq_self, Option.bind_some, Option.map_some, Bool.not_false, Bool.not_true, Bool.true_and, Bool.and_true, Bool.false_and, Bool.and_false, Bool.or_true, Bool.true_or, Bool.or_false, Bool.false_or, if_true, Bool.false_eq_true, if_false, Nat.sub_self, Nat.reduceAdd, Nat.reduceSub, Nat.reduceEqDiff, ite_true, ite_false, Nat.reduceLeDiff, tyName, ty_not (x := .str b) rfl kn_int, show ("str" == "int") = false by decide +kernel]; rfl
  | tup b => simp only [evF_end, end_nx, end_rt, FU, e_non, e_bl, e_int, e_str, e_ty, e_var, getV_some, e_glo, e_tup, e_lst, e_bin, e_neg, negV_int, e_not, e_and, e_or, andV_bl, orV_bl, and_pure, or_pure, e_cmp, e_chain, e_ite, e_idx, e_sli, e_gcd, gcdV_int, e_call, callR_ret, e_bi, e_comp, l_nil, l_cons, s_nil, s_cons, then_nx, then_rt, turn_eq, ife_t, ife_f, ifeG_eq, c_asg, c_ret, c_retO, c_exp, c_ife, c_for, c_asgO, c_app, c_sset, g0, gS, st0, stS, thaw_tup, thaw_lst, thaw_own, thaw_int, thaw_bl, thaw_str, thaw_non, thaw_stm, own_tup, own_lst, own_own, own_int, own_bl, own_str, own_non, own_ty, own_stm, tru_bl, tru_int, seq_tup, seq_lst, seq_own, lst_lst, lst_own, add_int, sub_int, eq_int, ne_int, lt_int', le_int', gt_int', ge_int', ne_bl, eq_bl, idx_tup, idx_lst, idx_own, len_1, all_1, any_1, sum_1, tuple_1, list_1, sorted_1, int_1, abs_1, type_1, bind_nm, bind_tp, bind_tpl, min1_1, max1_1, mind_1, min2_1, max2_1, it_enum, enumB_lst, c_par, it_seq, it_rng1, it_rng2, rngA_int, rngB_int, it_zip, zip_tup, zip_lst, par_none, par_some, parB_int, sli_tup, sli_lst, step_none, step_some, wipe_nil, wipe_cons, List.map_cons, List.map_nil, List.length_cons, len_nil, List.all_cons, List.all_nil, List.replicate, List.cons_append, List.nil_append, List.append_nil, List.zip_cons_cons, List.zip_nil_right, List.foldl_cons, List.foldl_nil, eq_self, Option.bind_some, Option.map_some, Bool.not_false, Bool.not_true, Bool.true_and, Bool.and_true, Bool.false_and, Bool.and_false, Bool.or_true, Bool.true_or, Bool.or_false, Bool.false_or, if_true, Bool.false_eq_true, if_false, Nat.sub_self, Nat.reduceAdd, Nat.reduceSub, Nat.reduceEqDiff, ite_true, ite_false, Nat.reduceLeDiff, tyName, ty_not (x := .tup b) rfl kn_int, show ("tuple" == "int") = false by decide +kernel]; rfl
  | lst b => simp only [evF_end, end_nx, end_rt, FU, e_non, e_bl, e_int, e_str, e_ty, e_var, getV_some, e_glo, e_tup, e_lst, e_bin, e_neg, negV_int, e_not, e_and, e_or, andV_bl, orV_bl, and_pure, or_pure, e_cmp, e_chain, e_ite, e_idx, e_sli, e_gcd, gcdV_int, e_call, callR_ret, e_bi, e_comp, l_nil, l_cons, s_nil, s_cons, then_nx, then_rt, turn_eq, ife_t, ife_f, ifeG_eq, c_asg, c_ret, c_retO, c_exp, c_ife, c_for, c_asgO, c_app, c_sset, g0, gS, st0, stS, thaw_tup, thaw_lst, thaw_own, thaw_int, thaw_bl, thaw_str, thaw_non, thaw_stm, own_tup, own_lst, own_own, own_int, own_bl, own_str, own_non, own_ty, own_stm, tru_bl, tru_int, seq_tup, seq_lst, seq_own, lst_lst, lst_own, add_int, sub_int, eq_int, ne_int, lt_int', le_int', gt_int', ge_int', ne_bl, eq_bl, idx_tup, idx_lst, idx_own, len_1, all_1, any_1, sum_1, tuple_1, list_1, sorted_1, int_1, abs_1, type_1, bind_nm, bind_tp, bind_tpl, min1_1, max1_1, mind_1, min2_1, max2_1, it_enum, enumB_lst, c_par, it_seq, it_rng1, it_rng2, rngA_int, rngB_int, it_zip, zip_tup, zip_lst, par_none, par_some, parB_int, sli_tup, sli_lst, step_none, step_some, wipe_nil, wipe_cons, List.map_cons, List.map_nil, List.length_cons, len_nil, List.all_cons, List.all_nil, List.replicate, List.cons_append, List.nil_append, List.append_nil, List.zip_cons_cons, List.zip_nil_right, List.foldl_cons, List.foldl_nil, eq_self, Option.bind_some, Option.map_some, Bool.not_false, Bool.not_true, Bool.true_and, Bool.and_true, Bool.false_and, Bool.and_false, Bool.or_true, Bool.true_or, Bool.or_false, Bool.false_or, if_true, Bool.false_eq_true, if_false, Nat.sub_self, Nat.reduceAdd, Nat.reduceSub, Nat.reduceEqDiff, ite_true, ite_false, Nat.reduceLeDiff, tyName, ty_not (x := .lst b) rfl kn_int, show ("list" == "int") = false by decide +kernel]; rfl
  | _ => simp [PV.pl] at h
theorem istup_ok {T : Tbl} : IsTupOk (evF T 3 P.c_is_tuple) := by
  intro x l m S h
  unfold P.c_is_tuple
  cases x with
  | tup i => simp only [evF_end, end_nx, end_rt, FU, e_non, e_bl, e_int, e_str, e_ty, e_var, getV_some, e_glo, e_tup, e_lst, e_bin, e_neg, negV_int, e_not, e_and, e_or, andV_bl, orV_bl, and_pure, or_pure, e_cmp, e_chain, e_ite, e_idx, e_sli, e_gcd, gcdV_int, e_call, callR_ret, e_bi, e_comp, l_nil, l_cons, s_nil, s_cons, then_nx, then_rt, turn_eq, ife_t, ife_f, ifeG_eq, c_asg, c_ret, c_retO, c_exp, c_ife, c_for, c_asgO, c_app, c_sset, g0, gS, st0, stS, thaw_tup, thaw_lst, thaw_own, thaw_int, thaw_bl, thaw_str, thaw_non, thaw_stm, own_tup, own_lst, own_own, own_int, own_bl, own_str, own_non, own_ty, own_stm, tru_bl, tru_int, seq_tup, seq_lst, seq_own, lst_lst, lst_own, add_int, sub_int, eq_int, ne_int, lt_int', le_int', gt_int', ge_int', ne_bl, eq_bl, idx_tup, idx_lst, idx_own, len_1, all_1, any_1, sum_1, tuple_1, list_1, sorted_1, int_1, abs_1, type_1, bind_nm, bind_tp, bind_tpl, min1_1, max1_1, mind_1, min2_1, max2_1, it_enum, enumB_lst, c_par, it_seq, it_rng1, it_rng2, rngA_int, rngB_int, it_zip, zip_tup, zip_lst, par_none, par_some, parB_int, sli_tup, sli_lst, step_none, step_some, wipe_nil, wipe_cons, List.map_cons, List.map_nil, List.length_cons, len_nil, List.all_cons, List.all_nil, List.replicate, List.cons_append, List.nil_append, List.append_nil, List.zip_cons_cons, List.zip_nil_right, List.foldl_cons, List.foldl_nil, eq_self, Option.bind_some, Option.map_some, Bool.not_false, Bool.not_true, Bool.true_and, Bool.and_true, Bool.false_and, Bool.and_false, Bool.or_true, Bool.true_or, Bool.or_false, Bool.false_or, if_true, Bool.false_eq_true, if_false, Nat.sub_self, Nat.reduceAdd, Nat.reduceSub, Nat.reduceEqDiff, ite_true, ite_false, Nat.reduceLeDiff, tyName, ty_eq kn_tuple kn_tuple, sb_tt]; rfl
  | non => simp only [evF_end, end_nx, end_rt, FU, e_non, e_bl, e_int, e_str, e_ty, e_var, getV_some, e_glo, e_tup, e_lst, e_bin, e_neg, negV_int, e_not, e_and, e_or, andV_bl, orV_bl, and_pure, or_pure, e_cmp, e_chain, e_ite, e_idx, e_sli, e_gcd, gcdV_int, e_call, callR_ret, e_bi, e_comp, l_nil, l_cons, s_nil, s_cons, then_nx, then_rt, turn_eq, ife_t, ife_f, ifeG_eq, c_asg, c_ret, c_retO, c_exp, c_ife, c_for, c_asgO, c_app, c_sset, g0, gS, st0, stS, thaw_tup, thaw_lst, thaw_own, thaw_int, thaw_bl, thaw_str, thaw_non, thaw_stm, own_tup, own_lst, own_own, own_int, own_bl, own_str, own_non, own_ty, own_stm, tru_bl, tru_int, seq_tup, seq_lst, seq_own, lst_lst, lst_own, add_int, sub_int, eq_int, ne_int, lt_int', le_int', gt_int', ge_int', ne_bl, eq_bl, idx_tup, idx_lst, idx_own, len_1, all_1, any_1, sum_1, tuple_1, list_1, sorted_1, int_1, abs_1, type_1, bind_nm, bind_tp, bind_tpl, min1_1, max1_1, mind_1, min2_1, max2_1, it_enum, enumB_lst, c_par, it_seq, it_rng1, it_rng2, rngA_int, rngB_int, it_zip, zip_tup, zip_lst, par_none, par_some, parB_int, sli_tup, sli_lst, step_none, step_some, wipe_nil, wipe_cons, List.map_cons, List.map_nil, List.length_cons, len_nil, List.all_cons, List.all_nil, List.replicate, List.cons_append, List.nil_append, List.append_nil, List.zip_cons_cons, List.zip_nil_right, List.foldl_cons, List.foldl_nil, eq_self, Option.bind_some, Option.map_some, Bool.not_false, Bool.not_true, Bool.true_and, Bool.and_true, Bool.false_and, Bool.and_false, Bool.or_true, Bool.true_or, Bool.or_false, Bool.false_or, if_true, Bool.false_eq_true, if_false, Nat.sub_self, Nat.reduceAdd, Nat.reduceSub, Nat.reduceEqDiff, ite_true, ite_false, Nat.reduceLeDiff, tyName, ty_not (x := .non) rfl kn_tuple, show ("NoneType" == "tuple") = false by decide +kernel]; rfl
  | bl b => simp only [evF_end, end_nx, end_rt, FU, e_non, e_bl, e_int, e_str, e_ty, e_var, getV_some, e_glo, e_tup, e_lst, e_bin, e_neg, negV_int, e_not, e_and, e_or, andV_bl, orV_bl, and_pure, or_pure, e_cmp, e_chain, e_ite, e_idx, e_sli, e_gcd, gcdV_int, e_call, callR_ret, e_bi, e_comp, l_nil, l_cons, s_nil, s_cons, then_nx, then_rt, turn_eq, ife_t, ife_f, ifeG_eq, c_asg, c_ret, c_retO, c_exp, c_ife, c_for, c_asgO, c_app, c_sset, g0, gS, st0, stS, thaw_tup, thaw_lst, thaw_own, thaw_int, thaw_bl, thaw_str, thaw_non, thaw_stm, own_tup, own_lst, own_own, own_int, own_bl, own_str, own_non, own_ty, own_stm, tru_bl, tru_int, seq_tup, seq_lst, seq_own, lst_lst, lst_own, add_int, sub_int, eq_int, ne_int, lt_int', le_int', gt_int', ge_int', ne_bl, eq_bl, idx_tup, idx_lst, idx_own, len_1, all_1, any_1, sum_1, tuple_1, list_1, sorted_1, int_1, abs_1, type_1, bind_nm, bind_tp, bind_tpl, min1_1, max1_1, mind_1, min2_1, max2_1, it_enum, enumB_lst, c_par, it_seq, it_rng1, it_rng2, rngA_int, rngB_int, it_zip, zip_tup, zip_lst, par_none, par_some, parB_int, sli_tup, sli_lst, step_none, step_some, wipe_nil, wipe_cons, List.map_cons, List.map_nil, List.length_cons, len_nil, List.all_cons, List.all_nil, List.replicate, List.cons_append, List.nil_append, List.append_nil, List.zip_cons_cons, List.zip_nil_right, List.foldl_cons, List.foldl_nil, eq_self, Option.bind_some, Option.map_some, Bool.not_false, Bool.not_true, Bool.true_and, Bool.and_true, Bool.false_and, Bool.and_false, Bool.or_true, Bool.true_or, Bool.or_false, Bool.false_or, if_true, Bool.false_eq_true, if_false, Nat.sub_self, Nat.reduceAdd, Nat.reduceSub, Nat.reduceEqDiff, ite_true, ite_false, Nat.reduceLeDiff, tyName, ty_not (x := .bl b) rfl kn_tuple, show ("bool" == "tuple") = false by decide +kernel]; rfl
  | str b => simp only [evF_end, end_nx, end_rt, FU, e_non, e_bl, e_int, e_str, e_ty, e_var, getV_some, e_glo, e_tup, e_lst, e_bin, e_neg, negV_int, e_not, e_and, e_or, andV_bl, orV_bl, and_pure, or_pure, e_cmp, e_chain, e_ite, e_idx, e_sli, e_gcd, gcdV_int, e_call, callR_ret, e_bi, e_comp, l_nil, l_cons, s_nil, s_cons, then_nx, then_rt, turn_eq, ife_t, ife_f, ifeG_eq, c_asg, c_ret, c_retO, c_exp, c_ife, c_for, c_asgO, c_app, c_sset, g0, gS, st0, stS, thaw_tup, thaw_lst, thaw_own, thaw_int, thaw_bl, thaw_str, thaw_non, thaw_stm, own_tup, own_lst, own_own, own_int, own_bl, own_str, own_non, own_ty, own_stm, tru_bl, tru_int, seq_tup, seq_lst, seq_own, lst_lst, lst_own, add_int, sub_int, eq_int, ne_int, lt_int', le_int', gt_int', ge_int', ne_bl, eq_bl, idx_tup, idx_lst, idx_own, len_1, all_1, any_1, sum_1, tuple_1, list_1, sorted_1, int_1, abs_1, type_1, bind_nm, bind_tp, bind_tpl, min1_1, max1_1, mind_1, min2_1, max2_1, it_enum, enumB_lst, c_par, it_seq, it_rng1, it_rng2, rngA_int, rngB_int, it_zip, zip_tup, zip_lst, par_none, par_some, parB_int, sli_tup, sli_lst, step_none, step_some, wipe_nil, wipe_cons, List.map_cons, List.map_nil, List.length_cons, len_nil, List.all_cons, List.all_nil, List.replicate, List.cons_append, List.nil_append, List.append_nil, List.zip_cons_cons, List.zip_nil_right, List.foldl_cons, List.foldl_nil, eq_self, Option.bind_some, Option.map_some, Bool.not_false, Bool.not_true, Bool.true_and, Bool.and_true, Bool.false_and, Bool.and_false, Bool.or_true, Bool.true_or, Bool.or_false, Bool.false_or, if_true, Bool.false_eq_true, if_false, Nat.sub_self, Nat.reduceAdd, Nat.reduceSub, Nat.reduceEqDiff, ite_true, ite_false, Nat.reduceLeDiff, tyName, ty_not (x := .str b) rfl kn_tuple, show ("str" == "tuple") = false by decide +kernel]; rfl
  | int b => simp only [evF_end, end_nx, end_rt, FU, e_non, e_bl, e_int, e_str, e_ty, e_var, getV_some, e_glo, e_tup, e_lst, e_bin, e_neg, negV_int, e_not, e_and, e_or, andV_bl, orV_bl, and_pure, or_pure, e_cmp, e_chain, e_ite, e_idx, e_sli, e_gcd, gcdV_int, e_call, callR_ret, e_bi, e_comp, l_nil, l_cons, s_nil, s_cons, then_nx, then_rt, turn_eq, ife_t, ife_f, ifeG_eq, c_asg, c_ret, c_retO, c_exp, c_ife, c_for, c_asgO, c_app, c_sset, g0, gS, st0, stS, thaw_tup, thaw_lst, thaw_own, thaw_int, thaw_bl, thaw_str, thaw_non, thaw_stm, own_tup, own_lst, own_own, own_int, own_bl, own_str, own_non, own_ty, own_stm, tru_bl, tru_int, seq_tup, seq_lst, seq_own, lst_lst, lst_own, add_int, sub_int, eq_int, ne_int, lt_int', le_int', gt_int', ge_int', ne_bl, eq_bl, idx_tup, idx_lst, idx_own, len_1, all_1, any_1, sum_1, tuple_1, list_1, sorted_1, int_1, abs_1, type_1, bind_nm, bind_tp, bind_tpl, min1_1, max1_1, mind_1, min2_1, max2_1, it_enum, enumB_lst, c_par, it_seq, it_rng1, it_rng2, rngA_int, rngB_int, it_zip, zip_tup, zip_lst, par_none, par_some, parB_int, sli_tup, sli_lst, step_none, step_some, wipe_nil, wipe_cons, List.map_cons, List.map_nil, List.length_cons, len_nil, List.all_cons, List.all_nil, List.replicate, List.cons_append, List.nil_append, List.append_nil, List.zip_cons_cons, List.zip_nil_right, List.foldl_cons, List.foldl_nil, eq_self, Option.bind_some, Option.map_some, Bool.not_false, Bool.not_true, Bool.true_and, Bool.and_true, Bool.false_and, Bool.and_false, Bool.or_true, Bool.true_or, Bool.or_false, Bool.false_or, if_true, Bool.false_eq_true, if_false, Nat.sub_self, Nat.reduceAdd, Nat.reduceSub, Nat.reduceEqDiff, ite_true, ite_false, Nat.reduceLeDiff, tyName, ty_not (x := .int b) rfl kn_tuple, show ("int" == "tuple") = false by decide +kernel]; rfl
  | lst b => simp only [evF_end, end_nx, end_rt, FU, e_non, e_bl, e_int, e_str, e_ty, e_var, getV_some, e_glo, e_tup, e_lst, e_bin, e_neg, negV_int, e_not, e_and, e_or, andV_bl, orV_bl, and_pure, or_pure, e_cmp, e_chain, e_ite, e_idx, e_sli, e_gcd, gcdV_int, e_call, callR_ret, e_bi, e_comp, l_nil, l_cons, s_nil, s_cons, then_nx, then_rt, turn_eq, ife_t, ife_f, ifeG_eq, c_asg, c_ret, c_retO, c_exp, c_ife, c_for, c_asgO, c_app, c_sset, g0, gS, st0, stS, thaw_tup, thaw_lst, thaw_own, thaw_int, thaw_bl, thaw_str, thaw_non, thaw_stm, own_tup, own_lst, own_own, own_int, own_bl, own_str, own_non, own_ty, own_stm, tru_bl, tru_int, seq_tup, seq_lst, seq_own, lst_lst, lst_own, add_int, sub_int, eq_int, ne_int, lt_int', le_int', gt_int', ge_int', ne_bl, eq_bl, idx_tup, idx_lst, idx_own, len_1, all_1, any_1, sum_1, tuple_1, list_1, sorted_1, int_1, abs_1, type_1, bind_nm, bind_tp, bind_tpl, min1_1, max1_1, mind_1, min2_1, max2_1, it_enum, enumB_lst, c_par, it_seq, it_rng1, it_rng2, rngA_int, rngB_int, it_zip, zip_tup, zip_lst, par_none, par_some, parB_int, sli_tup, sli_lst, step_none, step_some, wipe_nil, wipe_cons, List.map_cons, List.map_nil, List.length_cons, len_nil, List.all_cons, List.all_nil, List.replicate, List.cons_append, List.nil_append, List.append_nil, List.zip_cons_cons, List.zip_nil_right, List.foldl_cons, List.foldl_nil, eq_self, Option.bind_some, Option.map_some, Bool.not_false, Bool.not_true, Bool.true_and, Bool.and_true, Bool.false_and, Bool.and_false, Bool.or_true, Bool.true_or, Bool.or_false, Bool.false_or, if_true, Bool.false_eq_true, if_false, Nat.sub_self, Nat.reduceAdd, Nat.reduceSub, Nat.reduceEqDiff, ite_true, ite_false, Nat.reduceLeDiff, tyName, ty_not (x := .lst b) rfl kn_tuple, show ("list" == "tuple") = false by decide +kernel]; rfl
  | _ => simp [PV.pl] at h

/-! ### is_ascending -/
def ascL : List PV → Option (List Bool)
  | [] => some []
  | [_] => some []
  | x :: y :: r => (cmpV .lt x y).bind fun b => (ascL (y :: r)).map (b :: ·)
theorem cut1 {l : List PV} : cutP l (some 1) none = l.drop 1 := by
  unfold cutP HT.sIx
  cases l with
  | nil => rfl
  | cons x xs =>
    have : (if (1 : Int) < 0 then ((1 : Int) + ((x :: xs).length : Int)).toNat else min (1 : Int).toNat (x :: xs).length) = 1 := by
      rw [if_neg (by decide)]
      show min 1 (xs.length + 1) = 1
      omega
    dsimp only
    rw [this]
    simp
theorem asc_walk {step : PV → Strm → Option (Option PV × Strm)} {S : Strm} (hs : ∀ x y b, x.pl = true → y.pl = true → cmpV .lt x y = some b → step (.tup [x, y]) S = some (some (.bl b), S)) : ∀ {xs : List PV} {bs : List Bool}, PV.pls xs = true → ascL xs = some bs → compL step (zipV xs (xs.drop 1)) S = some (bs.map .bl, S)
  | [], bs, _, e => by simp only [ascL, Option.some.injEq] at e; subst e; rfl
  | [x], bs, _, e => by simp only [ascL, Option.some.injEq] at e; subst e; rfl
  | x :: y :: r, bs, h, e => by
    simp only [ascL, Option.bind_eq_some_iff, Option.map_eq_some_iff] at e
    obtain ⟨b, e1, cs, e2, rfl⟩ := e
    simp only [PV.pls, Bool.and_eq_true] at h
    have ih := asc_walk hs (xs := y :: r) (by simp only [PV.pls, Bool.and_eq_true]; exact h.2) e2
    show compL step (.tup [x, y] :: zipV (y :: r) r) S = _
    rw [compL, hs x y b h.1 h.2.1 e1, Option.bind_some]
    have ih' : compL step (zipV (y :: r) r) S = some (cs.map .bl, S) := ih
    dsimp only
    rw [ih', Option.map_some]
    rfl
def AscOk (φ : Fn) : Prop := ∀ x xs bs S, (x = .tup xs ∨ x = .lst xs) → PV.pls xs = true → xs.length ≤ LIM → ascL xs = some bs → φ [x] S = some (.ret (.bl (bs.all id)), S)
theorem zipV_len {xs ys : List PV} : (zipV xs ys).length = min xs.length ys.length := by unfold zipV; rw [List.length_map, List.length_zip]
theorem asc_ok {T : Tbl} : AscOk (evF T 3 P.c_is_ascending) := by
  intro x xs bs S hx hp hl e
  unfold P.c_is_ascending
  have hlen : (zipV xs (xs.drop 1)).length ≤ LIM := by rw [zipV_len]; omega
  have step : ∀ x y b, x.pl = true → y.pl = true → cmpV .lt x y = some b → stepV (fun e env S => evE T 58 e env S) (.cmp .lt (.var 1) (.var 2)) (.tp [1, 2]) none [some (.tup xs), none, none] (.tup [x, y]) S = some (some (.bl b), S) := by
    intro x y b hx hy hb
    simp only [evF_end, end_nx, end_rt, FU, e_non, e_bl, e_int, e_str, e_ty, e_var, getV_some, e_glo, e_tup, e_lst, e_bin, e_neg, negV_int, e_not, e_and, e_or, andV_bl, orV_bl, and_pure, or_pure, e_cmp, e_chain, e_ite, e_idx, e_sli, e_gcd, gcdV_int, e_call, callR_ret, e_bi, e_comp, l_nil, l_cons, s_nil, s_cons, then_nx, then_rt, turn_eq, ife_t, ife_f, ifeG_eq, c_asg, c_ret, c_retO, c_exp, c_ife, c_for, c_asgO, c_app, c_sset, g0, gS, st0, stS, thaw_tup, thaw_lst, thaw_own, thaw_int, thaw_bl, thaw_str, thaw_non, thaw_stm, own_tup, own_lst, own_own, own_int, own_bl, own_str, own_non, own_ty, own_stm, tru_bl, tru_int, seq_tup, seq_lst, seq_own, lst_lst, lst_own, add_int, sub_int, eq_int, ne_int, lt_int', le_int', gt_int', ge_int', ne_bl, eq_bl, idx_tup, idx_lst, idx_own, len_1, all_1, any_1, sum_1, tuple_1, list_1, sorted_1, int_1, abs_1, type_1, bind_nm, bind_tp, bind_tpl, min1_1, max1_1, mind_1, min2_1, max2_1, it_enum, enumB_lst, c_par, it_seq, it_rng1, it_rng2, rngA_int, rngB_int, it_zip, zip_tup, zip_lst, par_none, par_some, parB_int, sli_tup, sli_lst, step_none, step_some, wipe_nil, wipe_cons, List.map_cons, List.map_nil, List.length_cons, len_nil, List.all_cons, List.all_nil, List.replicate, List.cons_append, List.nil_append, List.append_nil, List.zip_cons_cons, List.zip_nil_right, List.foldl_cons, List.foldl_nil, eq_self, Option.bind_some, Option.map_some, Bool.not_false, Bool.not_true, Bool.true_and, Bool.and_true, Bool.false_and, Bool.and_false, Bool.or_true, Bool.true_or, Bool.or_false, Bool.false_or, if_true, Bool.false_eq_true, if_false, Nat.sub_self, Nat.reduceAdd, Nat.reduceSub, Nat.reduceEqDiff, ite_true, ite_false, Nat.reduceLeDiff, hb]
  have step' : ∀ x y b, x.pl = true → y.pl = true → cmpV .lt x y = some b → stepV (fun e env S => evE T 58 e env S) (.cmp .lt (.var 1) (.var 2)) (.tp [1, 2]) none [some (.lst xs), none, none] (.tup [x, y]) S = some (some (.bl b), S) := by
    intro x y b hx hy hb
    simp only [evF_end, end_nx, end_rt, FU, e_non, e_bl, e_int, e_str, e_ty, e_var, getV_some, e_glo, e_tup, e_lst, e_bin, e_neg, negV_int, e_not, e_and, e_or, andV_bl, orV_bl, and_pure, or_pure, e_cmp, e_chain, e_ite, e_idx, e_sli, e_gcd, gcdV_int, e_call, callR_ret, e_bi, e_comp, l_nil, l_cons, s_nil, s_cons, then_nx, then_rt, turn_eq, ife_t, ife_f, ifeG_eq, c_asg, c_ret, c_retO, c_exp, c_ife, c_for, c_asgO, c_app, c_sset, g0, gS, st0, stS, thaw_tup, thaw_lst, thaw_own, thaw_int, thaw_bl, thaw_str, thaw_non, thaw_stm, own_tup, own_lst, own_own, own_int, own_bl, own_str, own_non, own_ty, own_stm, tru_bl, tru_int, seq_tup, seq_lst, seq_own, lst_lst, lst_own, add_int, sub_int, eq_int, ne_int, lt_int', le_int', gt_int', ge_int', ne_bl, eq_bl, idx_tup, idx_lst, idx_own, len_1, all_1, any_1, sum_1, tuple_1, list_1, sorted_1, int_1, abs_1, type_1, bind_nm, bind_tp, bind_tpl, min1_1, max1_1, mind_1, min2_1, max2_1, it_enum, enumB_lst, c_par, it_seq, it_rng1, it_rng2, rngA_int, rngB_int, it_zip, zip_tup, zip_lst, par_none, par_some, parB_int, sli_tup, sli_lst, step_none, step_some, wipe_nil, wipe_cons, List.map_cons, List.map_nil, List.length_cons, len_nil, List.all_cons, List.all_nil, List.replicate, List.cons_append, List.nil_append, List.append_nil, List.zip_cons_cons, List.zip_nil_right, List.foldl_cons, List.foldl_nil, eq_self, Option.bind_some, Option.map_some, Bool.not_false, Bool.not_true, Bool.true_and, Bool.and_true, Bool.false_and, Bool.and_false, Bool.or_true, Bool.true_or, Bool.or_false, Bool.false_or, if_true, Bool.false_eq_true, if_false, Nat.sub_self, Nat.reduceAdd, Nat.reduceSub, Nat.reduceEqDiff, ite_true, ite_false, Nat.reduceLeDiff, hb]
  rcases hx with rfl | rfl
  · simp only [evF_end, end_nx, end_rt, FU, e_non, e_bl, e_int, e_str, e_ty, e_var, getV_some, e_glo, e_tup, e_lst, e_bin, e_neg, negV_int, e_not, e_and, e_or, andV_bl, orV_bl, and_pure, or_pure, e_cmp, e_chain, e_ite, e_idx, e_sli, e_gcd, gcdV_int, e_call, callR_ret, e_bi, e_comp, l_nil, l_cons, s_nil, s_cons, then_nx, then_rt, turn_eq, ife_t, ife_f, ifeG_eq, c_asg, c_ret, c_retO, c_exp, c_ife, c_for, c_asgO, c_app, c_sset, g0, gS, st0, stS, thaw_tup, thaw_lst, thaw_own, thaw_int, thaw_bl, thaw_str, thaw_non, thaw_stm, own_tup, own_lst, own_own, own_int, own_bl, own_str, own_non, own_ty, own_stm, tru_bl, tru_int, seq_tup, seq_lst, seq_own, lst_lst, lst_own, add_int, sub_int, eq_int, ne_int, lt_int', le_int', gt_int', ge_int', ne_bl, eq_bl, idx_tup, idx_lst, idx_own, len_1, all_1, any_1, sum_1, tuple_1, list_1, sorted_1, int_1, abs_1, type_1, bind_nm, bind_tp, bind_tpl, min1_1, max1_1, mind_1, min2_1, max2_1, it_enum, enumB_lst, c_par, it_seq, it_rng1, it_rng2, rngA_int, rngB_int, it_zip, zip_tup, zip_lst, par_none, par_some, parB_int, sli_tup, sli_lst, step_none, step_some, wipe_nil, wipe_cons, List.map_cons, List.map_nil, List.length_cons, len_nil, List.all_cons, List.all_nil, List.replicate, List.cons_append, List.nil_append, List.append_nil, List.zip_cons_cons, List.zip_nil_right, List.foldl_cons, List.foldl_nil, eq_self, Option.bind_some, Option.map_some, Bool.not_false, Bool.not_true, Bool.true_and, Bool.and_true, Bool.false_and, Bool.and_false, Bool.or_true, Bool.true_or, Bool.or_false, Bool.false_or, if_true, Bool.false_eq_true, if_false, Nat.sub_self, Nat.reduceAdd, Nat.reduceSub, Nat.reduceEqDiff, ite_true, ite_false, Nat.reduceLeDiff, cut1, hlen, asc_walk step hp e, bls_map]
  · simp only [evF_end, end_nx, end_rt, FU, e_non, e_bl, e_int, e_str, e_ty, e_var, getV_some, e_glo, e_tup, e_lst, e_bin, e_neg, negV_int, e_not, e_and, e_or, andV_bl, orV_bl, and_pure, or_pure, e_cmp, e_chain, e_ite, e_idx, e_sli, e_gcd, gcdV_int, e_call, callR_ret, e_bi, e_comp, l_nil, l_cons, s_nil, s_cons, then_nx, then_rt, turn_eq, ife_t, ife_f, ifeG_eq, c_asg, c_ret, c_retO, c_exp, c_ife, c_for, c_asgO, c_app, c_sset, g0, gS, st0, stS, thaw_tup, thaw_lst, thaw_own, thaw_int, thaw_bl, thaw_str, thaw_non, thaw_stm, own_tup, own_lst, own_own, own_int, own_bl, own_str, own_non, own_ty, own_stm, tru_bl, tru_int, seq_tup, seq_lst, seq_own, lst_lst, lst_own, add_int, sub_int, eq_int, ne_int, lt_int', le_int', gt_int', ge_int', ne_bl, eq_bl, idx_tup, idx_lst, idx_own, len_1, all_1, any_1, sum_1, tuple_1, list_1, sorted_1, int_1, abs_1, type_1, bind_nm, bind_tp, bind_tpl, min1_1, max1_1, mind_1, min2_1, max2_1, it_enum, enumB_lst, c_par, it_seq, it_rng1, it_rng2, rngA_int, rngB_int, it_zip, zip_tup, zip_lst, par_none, par_some, parB_int, sli_tup, sli_lst, step_none, step_some, wipe_nil, wipe_cons, List.map_cons, List.map_nil, List.length_cons, len_nil, List.all_cons, List.all_nil, List.replicate, List.cons_append, List.nil_append, List.append_nil, List.zip_cons_cons, List.zip_nil_right, List.foldl_cons, List.foldl_nil, eq_self, Option.bind_some, Option.map_some, Bool.not_false, Bool.not_true, Bool.true_and, Bool.and_true, Bool.false_and, Bool.and_false, Bool.or_true, Bool.true_or, Bool.or_false, Bool.false_or, if_true, Bool.false_eq_true, if_false, Nat.sub_self, Nat.reduceAdd, Nat.reduceSub, Nat.reduceEqDiff, ite_true, ite_false, Nat.reduceLeDiff, cut1, hlen, asc_walk step' hp e, bls_map]
end Ws

/-! Ws21: links, nets, wishes, fences. -/
namespace Ws
open PySem PySem.Spec L2

/-- a road or a wish -/
abbrev Lk := Int × Int × Int
def lk (r : Lk) : PV := .tup [.int r.1, .int r.2.1, .int r.2.2]
def goodLk (p m : Int) (r : Lk) : Bool := decide (0 ≤ r.1) && decide (r.1 ≤ p - 1) && (decide (r.1 + 1 ≤ r.2.1) && decide (r.2.1 ≤ p - 1)) && (decide (1 ≤ r.2.2) && decide (r.2.2 ≤ m))
def isLink (x : PV) (p m : Int) : Bool :=
  match x with
  | .tup [.int i, .int j, .int k] => goodLk p m (i, j, k)
  | _ => false
theorem isW_int {x : PV} {l m : Int} (h : isW x l m = true) : ∃ i, x = .int i ∧ l ≤ i ∧ i ≤ m := by
  unfold isW at h
  split at h
  · simp only [Bool.and_eq_true, decide_eq_true_eq] at h
    exact ⟨_, rfl, h.1, h.2⟩
  · cases h
theorem isLink_of {x : PV} {p m : Int} (h : isLink x p m = true) : ∃ r, x = lk r ∧ goodLk p m r = true := by
  unfold isLink at h
  split at h
  · exact ⟨_, rfl, h⟩
  · cases h
theorem isLink_lk {r : Lk} {p m : Int} : isLink (lk r) p m = goodLk p m r := rfl
theorem isLink_eq (a b c : PV) (p m : Int) : isLink (.tup [a, b, c]) p m = (isW a 0 (p - 1) && (match a with | .int i => isW b (i + 1) (p - 1) | _ => false) && isW c 1 m) := by
  cases a <;> first | rfl | skip
  rename_i i
  cases b <;> first | (simp [isLink, isW]; done) | skip
  rename_i j
  cases c <;> first | (simp [isLink, isW]; done) | skip
  simp [isLink, isW, goodLk]

structure Tw (T : Tbl) : Prop where
  w : ∃ φ, T.fn "is_within" = some (3, φ) ∧ WithinOk φ
  t : ∃ φ, T.fn "is_tuple" = some (3, φ) ∧ IsTupOk φ
/-- a pair of points, the lesser one first -/
def isPr (x : PV) (p : Int) : Bool :=
  match x with
  | .tup [.int i, .int j] => decide (0 ≤ i) && decide (i ≤ p - 1) && (decide (i + 1 ≤ j) && decide (j ≤ p - 1))
  | _ => false
theorem isPr_eq (a b : PV) (p : Int) : isPr (.tup [a, b]) p = (isW a 0 (p - 1) && (match a with | .int i => isW b (i + 1) (p - 1) | _ => false)) := by
  cases a <;> first | rfl | skip
  rename_i i
  cases b <;> first | (simp [isPr, isW]; done) | skip
theorem isPr_of {x : PV} {p : Int} (h : isPr x p = true) : ∃ i j, x = .tup [.int i, .int j] := by
  unfold isPr at h
  split at h
  · exact ⟨_, _, rfl⟩
  · cases h
def IsPairOk (φ : Fn) : Prop := ∀ x p S, x.pl = true → φ [x, .int p] S = some (.ret (.bl (isPr x p)), S)
theorem pair_ok {T : Tbl} (H : Tw T) : IsPairOk (evF T 4 P.c_is_pair) := by
  intro x p S hx
  obtain ⟨φw, ew, hw⟩ := H.w
  obtain ⟨φt, et, ht⟩ := H.t
  unfold P.c_is_pair
  by_cases hT : isT x 2 2 = true
  · cases x with
    | tup l =>
      simp only [isT, Bool.and_eq_true, decide_eq_true_eq] at hT
      have hl : l.length = 2 := by omega
      match l, hl with
      | [a, b], _ =>
        simp only [PV.pl, PV.pls, Bool.and_eq_true] at hx
        have ha := hx.1
        have hb := hx.2.1
        have hT' : ∀ S, φt [.tup [a, b], .int 2, .int 2] S = some (.ret (.bl true), S) := fun S => by
          rw [ht _ _ _ _ (by simp [PV.pl, PV.pls, ha, hb])]; rfl
        rw [isPr_eq]
        by_cases h1 : isW a 0 (p - 1) = true
        · obtain ⟨i, rfl, h2, h3⟩ := isW_int h1
          simp only [evF_end, end_nx, end_rt, FU, e_non, e_bl, e_int, e_str, e_ty, e_var, getV_some, e_glo, e_tup, e_lst, e_bin, e_neg, negV_int, e_not, e_and, e_or, andV_bl, orV_bl, and_pure, or_pure, e_cmp, e_chain, e_ite, e_idx, e_sli, e_gcd, gcdV_int, e_call, callR_ret, e_bi, e_comp, l_nil, l_cons, s_nil, s_cons, then_nx, then_rt, turn_eq, ife_t, ife_f, ifeG_eq, c_asg, c_ret, c_retO, c_exp, c_ife, c_for, c_asgO, c_app, c_sset, g0, gS, st0, stS, thaw_tup, thaw_lst, thaw_own, thaw_int, thaw_bl, thaw_str, thaw_non, thaw_stm, own_tup, own_lst, own_own, own_int, own_bl, own_str, own_non, own_ty, own_stm, tru_bl, tru_int, seq_tup, seq_lst, seq_own, lst_lst, lst_own, add_int, sub_int, eq_int, ne_int, lt_int', le_int', gt_int', ge_int', ne_bl, eq_bl, idx_tup, idx_lst, idx_own, len_1, all_1, any_1, sum_1, tuple_1, list_1, sorted_1, int_1, abs_1, type_1, bind_nm, bind_tp, bind_tpl, min1_1, max1_1, mind_1, min2_1, max2_1, it_enum, enumB_lst, c_par, it_seq, it_rng1, it_rng2, rngA_int, rngB_int, it_zip, zip_tup, zip_lst, par_none, par_some, parB_int, sli_tup, sli_lst, step_none, step_some, wipe_nil, wipe_cons, List.map_cons, List.map_nil, List.length_cons, len_nil, List.all_cons, List.all_nil, List.replicate, List.cons_append, List.nil_append, List.append_nil, List.zip_cons_cons, List.zip_nil_right, List.foldl_cons, List.foldl_nil, eq_self, Option.bind_some, Option.map_some, Bool.not_false, Bool.not_true, Bool.true_and, Bool.and_true, Bool.false_and, Bool.and_false, Bool.or_true, Bool.true_or, Bool.or_false, Bool.false_or, if_true, Bool.false_eq_true, if_false, Nat.sub_self, Nat.reduceAdd, Nat.reduceSub, Nat.reduceEqDiff, ite_true, ite_false, Nat.reduceLeDiff, et, hT', ew, hw _ _ _ _ pl_int, hw _ _ _ _ hb, pl_own hb, pl_thaw hb, h1]
        · have h1 := Bool.eq_false_iff.mpr h1
          simp only [evF_end, end_nx, end_rt, FU, e_non, e_bl, e_int, e_str, e_ty, e_var, getV_some, e_glo, e_tup, e_lst, e_bin, e_neg, negV_int, e_not, e_and, e_or, andV_bl, orV_bl, and_pure, or_pure, e_cmp, e_chain, e_ite, e_idx, e_sli, e_gcd, gcdV_int, e_call, callR_ret, e_bi, e_comp, l_nil, l_cons, s_nil, s_cons, then_nx, then_rt, turn_eq, ife_t, ife_f, ifeG_eq, c_asg, c_ret, c_retO, c_exp, c_ife, c_for, c_asgO, c_app, c_sset, g0, gS, st0, stS, thaw_tup, thaw_lst, thaw_own, thaw_int, thaw_bl, thaw_str, thaw_non, thaw_stm, own_tup, own_lst, own_own, own_int, own_bl, own_str, own_non, own_ty, own_stm, tru_bl, tru_int, seq_tup, seq_lst, seq_own, lst_lst, lst_own, add_int, sub_int, eq_int, ne_int, lt_int', le_int', gt_int', ge_int', ne_bl, eq_bl, idx_tup, idx_lst, idx_own, len_1, all_1, any_1, sum_1, tuple_1, list_1, sorted_1, int_1, abs_1, type_1, bind_nm, bind_tp, bind_tpl, min1_1, max1_1, mind_1, min2_1, max2_1, it_enum, enumB_lst, c_par, it_seq, it_rng1, it_rng2, rngA_int, rngB_int, it_zip, zip_tup, zip_lst, par_none, par_some, parB_int, sli_tup, sli_lst, step_none, step_some, wipe_nil, wipe_cons, List.map_cons, List.map_nil, List.length_cons, len_nil, List.all_cons, List.all_nil, List.replicate, List.cons_append, List.nil_append, List.append_nil, List.zip_cons_cons, List.zip_nil_right, List.foldl_cons, List.foldl_nil, eq_self, Option.bind_some, Option.map_some, Bool.not_false, Bool.not_true, Bool.true_and, Bool.and_true, Bool.false_and, Bool.and_false, Bool.or_true, Bool.true_or, Bool.or_false, Bool.false_or, if_true, Bool.false_eq_true, if_false, Nat.sub_self, Nat.reduceAdd, Nat.reduceSub, Nat.reduceEqDiff, ite_true, ite_false, Nat.reduceLeDiff, et, hT', ew, hw _ _ _ _ ha, pl_own ha, pl_own hb, pl_thaw ha, pl_thaw hb, h1]
    | _ => simp [isT] at hT
  · have hF : isPr x p = false := by
      unfold isPr
      split
      · simp [isT] at hT
      · rfl
    have hT := Bool.eq_false_iff.mpr hT
    simp only [evF_end, end_nx, end_rt, FU, e_non, e_bl, e_int, e_str, e_ty, e_var, getV_some, e_glo, e_tup, e_lst, e_bin, e_neg, negV_int, e_not, e_and, e_or, andV_bl, orV_bl, and_pure, or_pure, e_cmp, e_chain, e_ite, e_idx, e_sli, e_gcd, gcdV_int, e_call, callR_ret, e_bi, e_comp, l_nil, l_cons, s_nil, s_cons, then_nx, then_rt, turn_eq, ife_t, ife_f, ifeG_eq, c_asg, c_ret, c_retO, c_exp, c_ife, c_for, c_asgO, c_app, c_sset, g0, gS, st0, stS, thaw_tup, thaw_lst, thaw_own, thaw_int, thaw_bl, thaw_str, thaw_non, thaw_stm, own_tup, own_lst, own_own, own_int, own_bl, own_str, own_non, own_ty, own_stm, tru_bl, tru_int, seq_tup, seq_lst, seq_own, lst_lst, lst_own, add_int, sub_int, eq_int, ne_int, lt_int', le_int', gt_int', ge_int', ne_bl, eq_bl, idx_tup, idx_lst, idx_own, len_1, all_1, any_1, sum_1, tuple_1, list_1, sorted_1, int_1, abs_1, type_1, bind_nm, bind_tp, bind_tpl, min1_1, max1_1, mind_1, min2_1, max2_1, it_enum, enumB_lst, c_par, it_seq, it_rng1, it_rng2, rngA_int, rngB_int, it_zip, zip_tup, zip_lst, par_none, par_some, parB_int, sli_tup, sli_lst, step_none, step_some, wipe_nil, wipe_cons, List.map_cons, List.map_nil, List.length_cons, len_nil, List.all_cons, List.all_nil, List.replicate, List.cons_append, List.nil_append, List.append_nil, List.zip_cons_cons, List.zip_nil_right, List.foldl_cons, List.foldl_nil, eq_self, Option.bind_some, Option.map_some, Bool.not_false, Bool.not_true, Bool.true_and, Bool.and_true, Bool.false_and, Bool.and_false, Bool.or_true, Bool.true_or, Bool.or_false, Bool.false_or, if_true, Bool.false_eq_true, if_false, Nat.sub_self, Nat.reduceAdd, Nat.reduceSub, Nat.reduceEqDiff, ite_true, ite_false, Nat.reduceLeDiff, et, ht _ _ _ _ hx, hT, pl_own hx, pl_thaw hx, hF]
structure Tp (T : Tbl) : Prop extends Tw T where
  p : ∃ φ, T.fn "is_pair" = some (2, φ) ∧ IsPairOk φ
theorem cut2 (a b c : PV) : cutP [a, b, c] none (some 2) = [a, b] := rfl
theorem isLink_pr (a b c : PV) (p m : Int) : isLink (.tup [a, b, c]) p m = (isPr (.tup [a, b]) p && isW c 1 m) := by rw [isLink_eq, isPr_eq]
theorem at3_2 {a b c : PV} : atI [a, b, c] 2 = some c := rfl
def LinkOk (φ : Fn) : Prop := ∀ x p m S, x.pl = true → φ [x, .int p, .int m] S = some (.ret (.bl (isLink x p m)), S)
theorem link_ok {T : Tbl} (H : Tp T) : LinkOk (evF T 3 P.c_is_link) := by
  intro x p m S hx
  obtain ⟨φw, ew, hw⟩ := H.w
  obtain ⟨φt, et, ht⟩ := H.t
  obtain ⟨φp, ep, hp⟩ := H.p
  unfold P.c_is_link
  by_cases hT : isT x 3 3 = true
  · cases x with
    | tup l =>
      simp only [isT, Bool.and_eq_true, decide_eq_true_eq] at hT
      have hl : l.length = 3 := by omega
      match l, hl with
      | [a, b, c], _ =>
        simp only [PV.pl, PV.pls, Bool.and_eq_true] at hx
        have ha := hx.1
        have hb := hx.2.1
        have hc := hx.2.2.1
        have hT' : ∀ S, φt [.tup [a, b, c], .int 3, .int 3] S = some (.ret (.bl true), S) := fun S => by
          rw [ht _ _ _ _ (by simp [PV.pl, PV.pls, ha, hb, hc])]; rfl
        have hP' : ∀ S, φp [.tup [a, b], .int p] S = some (.ret (.bl (isPr (.tup [a, b]) p)), S) := fun S => hp _ _ _ (by simp [PV.pl, PV.pls, ha, hb])
        rw [isLink_pr]
        simp only [evF_end, end_nx, end_rt, FU, e_non, e_bl, e_int, e_str, e_ty, e_var, getV_some, e_glo, e_tup, e_lst, e_bin, e_neg, negV_int, e_not, e_and, e_or, andV_bl, orV_bl, and_pure, or_pure, e_cmp, e_chain, e_ite, e_idx, e_sli, e_gcd, gcdV_int, e_call, callR_ret, e_bi, e_comp, l_nil, l_cons, s_nil, s_cons, then_nx, then_rt, turn_eq, ife_t, ife_f, ifeG_eq, c_asg, c_ret, c_retO, c_exp, c_ife, c_for, c_asgO, c_app, c_sset, g0, gS, st0, stS, thaw_tup, thaw_lst, thaw_own, thaw_int, thaw_bl, thaw_str, thaw_non, thaw_stm, own_tup, own_lst, own_own, own_int, own_bl, own_str, own_non, own_ty, own_stm, tru_bl, tru_int, seq_tup, seq_lst, seq_own, lst_lst, lst_own, add_int, sub_int, eq_int, ne_int, lt_int', le_int', gt_int', ge_int', ne_bl, eq_bl, idx_tup, idx_lst, idx_own, len_1, all_1, any_1, sum_1, tuple_1, list_1, sorted_1, int_1, abs_1, type_1, bind_nm, bind_tp, bind_tpl, min1_1, max1_1, mind_1, min2_1, max2_1, it_enum, enumB_lst, c_par, it_seq, it_rng1, it_rng2, rngA_int, rngB_int, it_zip, zip_tup, zip_lst, par_none, par_some, parB_int, sli_tup, sli_lst, step_none, step_some, wipe_nil, wipe_cons, List.map_cons, List.map_nil, List.length_cons, len_nil, List.all_cons, List.all_nil, List.replicate, List.cons_append, List.nil_append, List.append_nil, List.zip_cons_cons, List.zip_nil_right, List.foldl_cons, List.foldl_nil, eq_self, Option.bind_some, Option.map_some, Bool.not_false, Bool.not_true, Bool.true_and, Bool.and_true, Bool.false_and, Bool.and_false, Bool.or_true, Bool.true_or, Bool.or_false, Bool.false_or, if_true, Bool.false_eq_true, if_false, Nat.sub_self, Nat.reduceAdd, Nat.reduceSub, Nat.reduceEqDiff, ite_true, ite_false, Nat.reduceLeDiff, et, hT', ep, hP', cut2, at3_2, ew, hw _ _ _ _ hc, pl_own hc, pl_thaw hc]
    | _ => simp [isT] at hT
  · have hF : isLink x p m = false := by
      unfold isLink
      split
      · simp [isT] at hT
      · rfl
    have hT := Bool.eq_false_iff.mpr hT
    simp only [evF_end, end_nx, end_rt, FU, e_non, e_bl, e_int, e_str, e_ty, e_var, getV_some, e_glo, e_tup, e_lst, e_bin, e_neg, negV_int, e_not, e_and, e_or, andV_bl, orV_bl, and_pure, or_pure, e_cmp, e_chain, e_ite, e_idx, e_sli, e_gcd, gcdV_int, e_call, callR_ret, e_bi, e_comp, l_nil, l_cons, s_nil, s_cons, then_nx, then_rt, turn_eq, ife_t, ife_f, ifeG_eq, c_asg, c_ret, c_retO, c_exp, c_ife, c_for, c_asgO, c_app, c_sset, g0, gS, st0, stS, thaw_tup, thaw_lst, thaw_own, thaw_int, thaw_bl, thaw_str, thaw_non, thaw_stm, own_tup, own_lst, own_own, own_int, own_bl, own_str, own_non, own_ty, own_stm, tru_bl, tru_int, seq_tup, seq_lst, seq_own, lst_lst, lst_own, add_int, sub_int, eq_int, ne_int, lt_int', le_int', gt_int', ge_int', ne_bl, eq_bl, idx_tup, idx_lst, idx_own, len_1, all_1, any_1, sum_1, tuple_1, list_1, sorted_1, int_1, abs_1, type_1, bind_nm, bind_tp, bind_tpl, min1_1, max1_1, mind_1, min2_1, max2_1, it_enum, enumB_lst, c_par, it_seq, it_rng1, it_rng2, rngA_int, rngB_int, it_zip, zip_tup, zip_lst, par_none, par_some, parB_int, sli_tup, sli_lst, step_none, step_some, wipe_nil, wipe_cons, List.map_cons, List.map_nil, List.length_cons, len_nil, List.all_cons, List.all_nil, List.replicate, List.cons_append, List.nil_append, List.append_nil, List.zip_cons_cons, List.zip_nil_right, List.foldl_cons, List.foldl_nil, eq_self, Option.bind_some, Option.map_some, Bool.not_false, Bool.not_true, Bool.true_and, Bool.and_true, Bool.false_and, Bool.and_false, Bool.or_true, Bool.true_or, Bool.or_false, Bool.false_or, if_true, Bool.false_eq_true, if_false, Nat.sub_self, Nat.reduceAdd, Nat.reduceSub, Nat.reduceEqDiff, ite_true, ite_false, Nat.reduceLeDiff, et, ht _ _ _ _ hx, hT, pl_own hx, pl_thaw hx, hF]

/-- the pairs of points go up -/
def ascP : List Lk → Bool
  | [] => true
  | [_] => true
  | x :: y :: r => (decide (x.1 < y.1) || (decide (x.1 = y.1) && decide (x.2.1 < y.2.1))) && ascP (y :: r)
def ascI : List Int → Bool
  | [] => true
  | [_] => true
  | x :: y :: r => decide (x < y) && ascI (y :: r)
def pr2 (r : Lk) : PV := .tup [.int r.1, .int r.2.1]
theorem lt_pr2 (x y : Lk) : cmpV .lt (pr2 x) (pr2 y) = some (decide (x.1 < y.1) || (decide (x.1 = y.1) && decide (x.2.1 < y.2.1))) := by
  show ltD (pr2 x) (pr2 y) = _
  unfold ltD pr2
  have e1 : (PV.tup [.int x.1, .int x.2.1]).pd = some (.tuple [.int x.1, .int x.2.1]) := by simp [PV.pd, PV.pds]
  have e2 : (PV.tup [.int y.1, .int y.2.1]).pd = some (.tuple [.int y.1, .int y.2.1]) := by simp [PV.pd, PV.pds]
  rw [e1, e2]
  dsimp only
  rw [if_pos (by simp [PySem.W.alike, PySem.W.alikeAll, notNone, PyData.depth, PyData.depthAll]), PySem.W.dataLt_ii]
  congr 1
  simp
theorem ascL_pr2 : ∀ l : List Lk, ∃ bs, ascL (l.map pr2) = some bs ∧ bs.all id = ascP l
  | [] => ⟨[], rfl, rfl⟩
  | [x] => ⟨[], rfl, rfl⟩
  | x :: y :: r => by
    obtain ⟨bs, h1, h2⟩ := ascL_pr2 (y :: r)
    refine ⟨(decide (x.1 < y.1) || (decide (x.1 = y.1) && decide (x.2.1 < y.2.1))) :: bs, ?_, ?_⟩
    · show (cmpV .lt (pr2 x) (pr2 y)).bind _ = _
      rw [lt_pr2, Option.bind_some]
      have h1' : ascL (pr2 y :: r.map pr2) = some bs := h1
      rw [h1']; rfl
    · rw [List.all_cons, h2]; rfl
theorem ascL_int : ∀ l : List Int, ∃ bs, ascL (l.map PV.int) = some bs ∧ bs.all id = ascI l
  | [] => ⟨[], rfl, rfl⟩
  | [x] => ⟨[], rfl, rfl⟩
  | x :: y :: r => by
    obtain ⟨bs, h1, h2⟩ := ascL_int (y :: r)
    refine ⟨decide (x < y) :: bs, ?_, ?_⟩
    · show (cmpV .lt (.int x) (.int y)).bind _ = _
      rw [lt_int', Option.bind_some]
      have h1' : ascL (.int y :: r.map PV.int) = some bs := h1
      rw [h1']; rfl
    · rw [List.all_cons, h2]; rfl
/-- the links of a value -/
def lks? : List PV → Int → Int → Option (List Lk)
  | [], _, _ => some []
  | x :: xs, p, m => match x with
    | .tup [.int i, .int j, .int k] => if goodLk p m (i, j, k) then (lks? xs p m).map ((i, j, k) :: ·) else none
    | _ => none
def areLinks (x : PV) (p k m : Int) : Bool :=
  match x with
  | .tup xs => decide ((xs.length : Int) ≤ k) && (match lks? xs p m with | some ls => ascP ls | none => false)
  | _ => false
theorem lks_of {p m : Int} : ∀ {xs : List PV}, (∀ x ∈ xs, isLink x p m = true) → ∃ ls : List Lk, xs = ls.map lk ∧ lks? xs p m = some ls ∧ ∀ r ∈ ls, goodLk p m r = true
  | [], _ => ⟨[], rfl, rfl, fun _ h => by simp at h⟩
  | x :: xs, h => by
    obtain ⟨r, rfl, hr⟩ := isLink_of (h x List.mem_cons_self)
    obtain ⟨ls, e1, e2, e3⟩ := lks_of fun y hy => h y (List.mem_cons_of_mem _ hy)
    refine ⟨r :: ls, by rw [e1]; rfl, ?_, fun q hq => ?_⟩
    · show (if goodLk p m r then (lks? xs p m).map (r :: ·) else none) = _
      rw [if_pos hr, e2]; rfl
    · rcases List.mem_cons.mp hq with e | hq
      · rw [e]; exact hr
      · exact e3 q hq
theorem lks_none {p m : Int} : ∀ {xs : List PV}, ¬ (∀ x ∈ xs, isLink x p m = true) → lks? xs p m = none
  | [], h => absurd (fun _ h => by simp at h) h
  | x :: xs, h => by
    unfold lks?
    split
    · rename_i i j k
      split
      · rename_i hg
        have : ¬ ∀ y ∈ xs, isLink y p m = true := fun z => h fun y hy => by
          rcases List.mem_cons.mp hy with e | hy
          · rw [e]; exact hg
          · exact z y hy
        rw [lks_none this]; rfl
      · rfl
    · rfl
structure Tl (T : Tbl) : Prop extends Tw T where
  l : ∃ φ, T.fn "is_link" = some (3, φ) ∧ LinkOk φ
  a : ∃ φ, T.fn "is_ascending" = some (1, φ) ∧ AscOk φ
def LinksOk (φ : Fn) : Prop := ∀ x p k m S, x.pl = true → k ≤ 1000 → φ [x, .int p, .int k, .int m] S = some (.ret (.bl (areLinks x p k m)), S)
theorem links_ok {T : Tbl} (H : Tl T) : LinksOk (evF T 5 P.c_are_links) := by
  intro x p k m S hx hk
  obtain ⟨φt, et, ht⟩ := H.t
  obtain ⟨φl, el, hl⟩ := H.l
  obtain ⟨φa, ea, ha⟩ := H.a
  unfold P.c_are_links
  by_cases hT : isT x 0 k = true
  · cases x with
    | tup xs =>
      have hxs : PV.pls xs = true := by simpa [PV.pl] using hx
      have hT' : ∀ S, φt [.tup xs, .int 0, .int k] S = some (.ret (.bl true), S) := fun S => by rw [ht _ _ _ _ hx, hT]
      simp only [isT, Bool.and_eq_true, decide_eq_true_eq] at hT
      have hlen : xs.length ≤ LIM := by unfold LIM; omega
      have step : ∀ y ∈ xs, stepV (fun e env S => evE T 57 e env S) (.call "is_link" [.var 4, .var 1, .var 3]) (.nm 4) none [some (.tup xs), some (.int p), some (.int k), some (.int m), none] y S = some (some (.bl (isLink y p m)), S) := by
        intro y hy
        have hyp := pls_all hxs y hy
        simp only [evF_end, end_nx, end_rt, FU, e_non, e_bl, e_int, e_str, e_ty, e_var, getV_some, e_glo, e_tup, e_lst, e_bin, e_neg, negV_int, e_not, e_and, e_or, andV_bl, orV_bl, and_pure, or_pure, e_cmp, e_chain, e_ite, e_idx, e_sli, e_gcd, gcdV_int, e_call, callR_ret, e_bi, e_comp, l_nil, l_cons, s_nil, s_cons, then_nx, then_rt, turn_eq, ife_t, ife_f, ifeG_eq, c_asg, c_ret, c_retO, c_exp, c_ife, c_for, c_asgO, c_app, c_sset, g0, gS, st0, stS, thaw_tup, thaw_lst, thaw_own, thaw_int, thaw_bl, thaw_str, thaw_non, thaw_stm, own_tup, own_lst, own_own, own_int, own_bl, own_str, own_non, own_ty, own_stm, tru_bl, tru_int, seq_tup, seq_lst, seq_own, lst_lst, lst_own, add_int, sub_int, eq_int, ne_int, lt_int', le_int', gt_int', ge_int', ne_bl, eq_bl, idx_tup, idx_lst, idx_own, len_1, all_1, any_1, sum_1, tuple_1, list_1, sorted_1, int_1, abs_1, type_1, bind_nm, bind_tp, bind_tpl, min1_1, max1_1, mind_1, min2_1, max2_1, it_enum, enumB_lst, c_par, it_seq, it_rng1, it_rng2, rngA_int, rngB_int, it_zip, zip_tup, zip_lst, par_none, par_some, parB_int, sli_tup, sli_lst, step_none, step_some, wipe_nil, wipe_cons, List.map_cons, List.map_nil, List.length_cons, len_nil, List.all_cons, List.all_nil, List.replicate, List.cons_append, List.nil_append, List.append_nil, List.zip_cons_cons, List.zip_nil_right, List.foldl_cons, List.foldl_nil, eq_self, Option.bind_some, Option.map_some, Bool.not_false, Bool.not_true, Bool.true_and, Bool.and_true, Bool.false_and, Bool.and_false, Bool.or_true, Bool.true_or, Bool.or_false, Bool.false_or, if_true, Bool.false_eq_true, if_false, Nat.sub_self, Nat.reduceAdd, Nat.reduceSub, Nat.reduceEqDiff, ite_true, ite_false, Nat.reduceLeDiff, el, hl _ _ _ _ hyp, pl_own hyp, pl_thaw hyp]
      have w1 := compL_pure (g := fun y => some (.bl (isLink y p m))) step
      have e1 : xs.filterMap (fun y => some (PV.bl (isLink y p m))) = (xs.map fun y => isLink y p m).map PV.bl := by rw [List.filterMap_eq_map', List.map_map]; rfl
      rw [e1] at w1
      by_cases hall : ∀ y ∈ xs, isLink y p m = true
      · obtain ⟨ls, rfl, e2, e3⟩ := lks_of hall
        have h4 : ((ls.map lk).map fun y => isLink y p m).all id = true := by
          rw [List.all_map]; exact List.all_eq_true.mpr fun y hy => hall y hy
        have step2 : ∀ r ∈ ls, stepV (fun e env S => evE T 58 e env S) (.sli (.var 4) none (some (.int 2))) (.nm 4) none [some (.tup (ls.map lk)), some (.int p), some (.int k), some (.int m), none] (lk r) S = some (some (pr2 r), S) := by
          intro r hr
          unfold lk
          simp only [evF_end, end_nx, end_rt, FU, e_non, e_bl, e_int, e_str, e_ty, e_var, getV_some, e_glo, e_tup, e_lst, e_bin, e_neg, negV_int, e_not, e_and, e_or, andV_bl, orV_bl, and_pure, or_pure, e_cmp, e_chain, e_ite, e_idx, e_sli, e_gcd, gcdV_int, e_call, callR_ret, e_bi, e_comp, l_nil, l_cons, s_nil, s_cons, then_nx, then_rt, turn_eq, ife_t, ife_f, ifeG_eq, c_asg, c_ret, c_retO, c_exp, c_ife, c_for, c_asgO, c_app, c_sset, g0, gS, st0, stS, thaw_tup, thaw_lst, thaw_own, thaw_int, thaw_bl, thaw_str, thaw_non, thaw_stm, own_tup, own_lst, own_own, own_int, own_bl, own_str, own_non, own_ty, own_stm, tru_bl, tru_int, seq_tup, seq_lst, seq_own, lst_lst, lst_own, add_int, sub_int, eq_int, ne_int, lt_int', le_int', gt_int', ge_int', ne_bl, eq_bl, idx_tup, idx_lst, idx_own, len_1, all_1, any_1, sum_1, tuple_1, list_1, sorted_1, int_1, abs_1, type_1, bind_nm, bind_tp, bind_tpl, min1_1, max1_1, mind_1, min2_1, max2_1, it_enum, enumB_lst, c_par, it_seq, it_rng1, it_rng2, rngA_int, rngB_int, it_zip, zip_tup, zip_lst, par_none, par_some, parB_int, sli_tup, sli_lst, step_none, step_some, wipe_nil, wipe_cons, List.map_cons, List.map_nil, List.length_cons, len_nil, List.all_cons, List.all_nil, List.replicate, List.cons_append, List.nil_append, List.append_nil, List.zip_cons_cons, List.zip_nil_right, List.foldl_cons, List.foldl_nil, eq_self, Option.bind_some, Option.map_some, Bool.not_false, Bool.not_true, Bool.true_and, Bool.and_true, Bool.false_and, Bool.and_false, Bool.or_true, Bool.true_or, Bool.or_false, Bool.false_or, if_true, Bool.false_eq_true, if_false, Nat.sub_self, Nat.reduceAdd, Nat.reduceSub, Nat.reduceEqDiff, ite_true, ite_false, Nat.reduceLeDiff, show ∀ a b c : PV, cutP [a, b, c] none (some 2) = [a, b] from fun a b c => rfl]
          rfl
        have w2 := compL_map (f := lk) (g := fun r => some (pr2 r)) step2
        have e5 : ls.filterMap (fun r => some (pr2 r)) = ls.map pr2 := by rw [List.filterMap_eq_map']
        rw [e5] at w2
        obtain ⟨bs, b1, b2⟩ := ascL_pr2 ls
        have hal : ∀ S, φa [.lst (ls.map pr2)] S = some (.ret (.bl (ascP ls)), S) := fun S => by
          rw [ha _ _ bs S (.inr rfl) (pls_of fun y hy => by obtain ⟨r, _, rfl⟩ := List.mem_map.mp hy; simp [pr2, PV.pl, PV.pls]) (by simpa using hlen) b1, b2]
        have hr : areLinks (.tup (ls.map lk)) p k m = ascP ls := by
          unfold areLinks
          dsimp only
          rw [e2, decide_eq_true hT.2]; rfl
        rw [hr]
        simp only [evF_end, end_nx, end_rt, FU, e_non, e_bl, e_int, e_str, e_ty, e_var, getV_some, e_glo, e_tup, e_lst, e_bin, e_neg, negV_int, e_not, e_and, e_or, andV_bl, orV_bl, and_pure, or_pure, e_cmp, e_chain, e_ite, e_idx, e_sli, e_gcd, gcdV_int, e_call, callR_ret, e_bi, e_comp, l_nil, l_cons, s_nil, s_cons, then_nx, then_rt, turn_eq, ife_t, ife_f, ifeG_eq, c_asg, c_ret, c_retO, c_exp, c_ife, c_for, c_asgO, c_app, c_sset, g0, gS, st0, stS, thaw_tup, thaw_lst, thaw_own, thaw_int, thaw_bl, thaw_str, thaw_non, thaw_stm, own_tup, own_lst, own_own, own_int, own_bl, own_str, own_non, own_ty, own_stm, tru_bl, tru_int, seq_tup, seq_lst, seq_own, lst_lst, lst_own, add_int, sub_int, eq_int, ne_int, lt_int', le_int', gt_int', ge_int', ne_bl, eq_bl, idx_tup, idx_lst, idx_own, len_1, all_1, any_1, sum_1, tuple_1, list_1, sorted_1, int_1, abs_1, type_1, bind_nm, bind_tp, bind_tpl, min1_1, max1_1, mind_1, min2_1, max2_1, it_enum, enumB_lst, c_par, it_seq, it_rng1, it_rng2, rngA_int, rngB_int, it_zip, zip_tup, zip_lst, par_none, par_some, parB_int, sli_tup, sli_lst, step_none, step_some, wipe_nil, wipe_cons, List.map_cons, List.map_nil, List.length_cons, len_nil, List.all_cons, List.all_nil, List.replicate, List.cons_append, List.nil_append, List.append_nil, List.zip_cons_cons, List.zip_nil_right, List.foldl_cons, List.foldl_nil, eq_self, Option.bind_some, Option.map_some, Bool.not_false, Bool.not_true, Bool.true_and, Bool.and_true, Bool.false_and, Bool.and_false, Bool.or_true, Bool.true_or, Bool.or_false, Bool.false_or, if_true, Bool.false_eq_true, if_false, Nat.sub_self, Nat.reduceAdd, Nat.reduceSub, Nat.reduceEqDiff, ite_true, ite_false, Nat.reduceLeDiff, et, hT', hlen, w1, bls_map, h4, w2, ea, hal]
      · have h4 : (xs.map fun y => isLink y p m).all id = false := by
          rw [List.all_map]
          refine Bool.eq_false_iff.mpr fun z => hall fun y hy => List.all_eq_true.mp z y hy
        have hr : areLinks (.tup xs) p k m = false := by
          unfold areLinks
          dsimp only
          rw [lks_none hall, Bool.and_false]
        rw [hr]
        simp only [evF_end, end_nx, end_rt, FU, e_non, e_bl, e_int, e_str, e_ty, e_var, getV_some, e_glo, e_tup, e_lst, e_bin, e_neg, negV_int, e_not, e_and, e_or, andV_bl, orV_bl, and_pure, or_pure, e_cmp, e_chain, e_ite, e_idx, e_sli, e_gcd, gcdV_int, e_call, callR_ret, e_bi, e_comp, l_nil, l_cons, s_nil, s_cons, then_nx, then_rt, turn_eq, ife_t, ife_f, ifeG_eq, c_asg, c_ret, c_retO, c_exp, c_ife, c_for, c_asgO, c_app, c_sset, g0, gS, st0, stS, thaw_tup, thaw_lst, thaw_own, thaw_int, thaw_bl, thaw_str, thaw_non, thaw_stm, own_tup, own_lst, own_own, own_int, own_bl, own_str, own_non, own_ty, own_stm, tru_bl, tru_int, seq_tup, seq_lst, seq_own, lst_lst, lst_own, add_int, sub_int, eq_int, ne_int, lt_int', le_int', gt_int', ge_int', ne_bl, eq_bl, idx_tup, idx_lst, idx_own, len_1, all_1, any_1, sum_1, tuple_1, list_1, sorted_1, int_1, abs_1, type_1, bind_nm, bind_tp, bind_tpl, min1_1, max1_1, mind_1, min2_1, max2_1, it_enum, enumB_lst, c_par, it_seq, it_rng1, it_rng2, rngA_int, rngB_int, it_zip, zip_tup, zip_lst, par_none, par_some, parB_int, sli_tup, sli_lst, step_none, step_some, wipe_nil, wipe_cons, List.map_cons, List.map_nil, List.length_cons, len_nil, List.all_cons, List.all_nil, List.replicate, List.cons_append, List.nil_append, List.append_nil, List.zip_cons_cons, List.zip_nil_right, List.foldl_cons, List.foldl_nil, eq_self, Option.bind_some, Option.map_some, Bool.not_false, Bool.not_true, Bool.true_and, Bool.and_true, Bool.false_and, Bool.and_false, Bool.or_true, Bool.true_or, Bool.or_false, Bool.false_or, if_true, Bool.false_eq_true, if_false, Nat.sub_self, Nat.reduceAdd, Nat.reduceSub, Nat.reduceEqDiff, ite_true, ite_false, Nat.reduceLeDiff, et, hT', hlen, w1, bls_map, h4]
    | _ => simp [isT] at hT
  · have hF : areLinks x p k m = false := by
      unfold areLinks
      split
      · rename_i xs
        have : decide ((xs.length : Int) ≤ k) = false := by
          refine Bool.eq_false_iff.mpr fun z => hT ?_
          simp only [isT, Bool.and_eq_true, decide_eq_true_eq] at z ⊢
          exact ⟨by omega, z⟩
        rw [this]; rfl
      · rfl
    have hT := Bool.eq_false_iff.mpr hT
    simp only [evF_end, end_nx, end_rt, FU, e_non, e_bl, e_int, e_str, e_ty, e_var, getV_some, e_glo, e_tup, e_lst, e_bin, e_neg, negV_int, e_not, e_and, e_or, andV_bl, orV_bl, and_pure, or_pure, e_cmp, e_chain, e_ite, e_idx, e_sli, e_gcd, gcdV_int, e_call, callR_ret, e_bi, e_comp, l_nil, l_cons, s_nil, s_cons, then_nx, then_rt, turn_eq, ife_t, ife_f, ifeG_eq, c_asg, c_ret, c_retO, c_exp, c_ife, c_for, c_asgO, c_app, c_sset, g0, gS, st0, stS, thaw_tup, thaw_lst, thaw_own, thaw_int, thaw_bl, thaw_str, thaw_non, thaw_stm, own_tup, own_lst, own_own, own_int, own_bl, own_str, own_non, own_ty, own_stm, tru_bl, tru_int, seq_tup, seq_lst, seq_own, lst_lst, lst_own, add_int, sub_int, eq_int, ne_int, lt_int', le_int', gt_int', ge_int', ne_bl, eq_bl, idx_tup, idx_lst, idx_own, len_1, all_1, any_1, sum_1, tuple_1, list_1, sorted_1, int_1, abs_1, type_1, bind_nm, bind_tp, bind_tpl, min1_1, max1_1, mind_1, min2_1, max2_1, it_enum, enumB_lst, c_par, it_seq, it_rng1, it_rng2, rngA_int, rngB_int, it_zip, zip_tup, zip_lst, par_none, par_some, parB_int, sli_tup, sli_lst, step_none, step_some, wipe_nil, wipe_cons, List.map_cons, List.map_nil, List.length_cons, len_nil, List.all_cons, List.all_nil, List.replicate, List.cons_append, List.nil_append, List.append_nil, List.zip_cons_cons, List.zip_nil_right, List.foldl_cons, List.foldl_nil, eq_self, Option.bind_some, Option.map_some, Bool.not_false, Bool.not_true, Bool.true_and, Bool.and_true, Bool.false_and, Bool.and_false, Bool.or_true, Bool.true_or, Bool.or_false, Bool.false_or, if_true, Bool.false_eq_true, if_false, Nat.sub_self, Nat.reduceAdd, Nat.reduceSub, Nat.reduceEqDiff, ite_true, ite_false, Nat.reduceLeDiff, et, ht _ _ _ _ hx, hT, pl_own hx, pl_thaw hx, hF]
end Ws

/-! Ws22: nets, fences, widths. -/
namespace Ws
open PySem PySem.Spec L2

def isNet (x : PV) : Bool :=
  match x with
  | .tup [.int p, r] => decide (2 ≤ p) && decide (p ≤ 7) && areLinks r p 15 6
  | _ => false
structure Tn (T : Tbl) : Prop extends Tw T where
  g1 : T.glo "LEAST_POINTS" = some 2
  g2 : T.glo "MOST_POINTS" = some 7
  g3 : T.glo "MOST_ROADS" = some 15
  g4 : T.glo "MOST_WIDTH" = some 6
  r : ∃ φ, T.fn "are_links" = some (4, φ) ∧ LinksOk φ
def NetOk (φ : Fn) : Prop := ∀ x S, x.pl = true → φ [x] S = some (.ret (.bl (isNet x)), S)
theorem net_ok {T : Tbl} (H : Tn T) : NetOk (evF T 3 P.c_is_net) := by
  intro x S hx
  obtain ⟨φw, ew, hw⟩ := H.w
  obtain ⟨φt, et, ht⟩ := H.t
  obtain ⟨φr, er, hr⟩ := H.r
  unfold P.c_is_net
  by_cases hT : isT x 2 2 = true
  · cases x with
    | tup l =>
      have hT' : ∀ S, φt [.tup l, .int 2, .int 2] S = some (.ret (.bl true), S) := fun S => by rw [ht _ _ _ _ hx, hT]
      simp only [isT, Bool.and_eq_true, decide_eq_true_eq] at hT
      have hl : l.length = 2 := by omega
      match l, hl with
      | [a, b], _ =>
        simp only [PV.pl, PV.pls, Bool.and_eq_true] at hx
        have ha := hx.1
        have hb := hx.2.1
        by_cases h1 : isW a 2 7 = true
        · obtain ⟨i, rfl, h2, h3⟩ := isW_int h1
          have e : isNet (.tup [.int i, b]) = areLinks b i 15 6 := by
            show (decide (2 ≤ i) && decide (i ≤ 7) && _) = _
            rw [decide_eq_true h2, decide_eq_true h3]; rfl
          simp only [evF_end, end_nx, end_rt, FU, e_non, e_bl, e_int, e_str, e_ty, e_var, getV_some, e_glo, e_tup, e_lst, e_bin, e_neg, negV_int, e_not, e_and, e_or, andV_bl, orV_bl, and_pure, or_pure, e_cmp, e_chain, e_ite, e_idx, e_sli, e_gcd, gcdV_int, e_call, callR_ret, e_bi, e_comp, l_nil, l_cons, s_nil, s_cons, then_nx, then_rt, turn_eq, ife_t, ife_f, ifeG_eq, c_asg, c_ret, c_retO, c_exp, c_ife, c_for, c_asgO, c_app, c_sset, g0, gS, st0, stS, thaw_tup, thaw_lst, thaw_own, thaw_int, thaw_bl, thaw_str, thaw_non, thaw_stm, own_tup, own_lst, own_own, own_int, own_bl, own_str, own_non, own_ty, own_stm, tru_bl, tru_int, seq_tup, seq_lst, seq_own, lst_lst, lst_own, add_int, sub_int, eq_int, ne_int, lt_int', le_int', gt_int', ge_int', ne_bl, eq_bl, idx_tup, idx_lst, idx_own, len_1, all_1, any_1, sum_1, tuple_1, list_1, sorted_1, int_1, abs_1, type_1, bind_nm, bind_tp, bind_tpl, min1_1, max1_1, mind_1, min2_1, max2_1, it_enum, enumB_lst, c_par, it_seq, it_rng1, it_rng2, rngA_int, rngB_int, it_zip, zip_tup, zip_lst, par_none, par_some, parB_int, sli_tup, sli_lst, step_none, step_some, wipe_nil, wipe_cons, List.map_cons, List.map_nil, List.length_cons, len_nil, List.all_cons, List.all_nil, List.replicate, List.cons_append, List.nil_append, List.append_nil, List.zip_cons_cons, List.zip_nil_right, List.foldl_cons, List.foldl_nil, eq_self, Option.bind_some, Option.map_some, Bool.not_false, Bool.not_true, Bool.true_and, Bool.and_true, Bool.false_and, Bool.and_false, Bool.or_true, Bool.true_or, Bool.or_false, Bool.false_or, if_true, Bool.false_eq_true, if_false, Nat.sub_self, Nat.reduceAdd, Nat.reduceSub, Nat.reduceEqDiff, ite_true, ite_false, Nat.reduceLeDiff, et, hT', ew, H.g1, H.g2, H.g3, H.g4, hw _ _ _ _ pl_int, er, hr _ i 15 6 _ hb (by decide), pl_own hb, pl_thaw hb, h1, e]
        · have e : isNet (.tup [a, b]) = false := by
            unfold isNet
            split
            · rename_i p r h
              injection h with h
              injection h with h _
              subst h
              simp only [isW, Bool.and_eq_true, decide_eq_true_eq] at h1
              have : (decide (2 ≤ p) && decide (p ≤ 7)) = false := Bool.eq_false_iff.mpr fun z => h1 (by simpa using z)
              rw [this]; rfl
            · rfl
          have h1 := Bool.eq_false_iff.mpr h1
          simp only [evF_end, end_nx, end_rt, FU, e_non, e_bl, e_int, e_str, e_ty, e_var, getV_some, e_glo, e_tup, e_lst, e_bin, e_neg, negV_int, e_not, e_and, e_or, andV_bl, orV_bl, and_pure, or_pure, e_cmp, e_chain, e_ite, e_idx, e_sli, e_gcd, gcdV_int, e_call, callR_ret, e_bi, e_comp, l_nil, l_cons, s_nil, s_cons, then_nx, then_rt, turn_eq, ife_t, ife_f, ifeG_eq, c_asg, c_ret, c_retO, c_exp, c_ife, c_for, c_asgO, c_app, c_sset, g0, gS, st0, stS, thaw_tup, thaw_lst, thaw_own, thaw_int, thaw_bl, thaw_str, thaw_non, thaw_stm, own_tup, own_lst, own_own, own_int, own_bl, own_str, own_non, own_ty, own_stm, tru_bl, tru_int, seq_tup, seq_lst, seq_own, lst_lst, lst_own, add_int, sub_int, eq_int, ne_int, lt_int', le_int', gt_int', ge_int', ne_bl, eq_bl, idx_tup, idx_lst, idx_own, len_1, all_1, any_1, sum_1, tuple_1, list_1, sorted_1, int_1, abs_1, type_1, bind_nm, bind_tp, bind_tpl, min1_1, max1_1, mind_1, min2_1, max2_1, it_enum, enumB_lst, c_par, it_seq, it_rng1, it_rng2, rngA_int, rngB_int, it_zip, zip_tup, zip_lst, par_none, par_some, parB_int, sli_tup, sli_lst, step_none, step_some, wipe_nil, wipe_cons, List.map_cons, List.map_nil, List.length_cons, len_nil, List.all_cons, List.all_nil, List.replicate, List.cons_append, List.nil_append, List.append_nil, List.zip_cons_cons, List.zip_nil_right, List.foldl_cons, List.foldl_nil, eq_self, Option.bind_some, Option.map_some, Bool.not_false, Bool.not_true, Bool.true_and, Bool.and_true, Bool.false_and, Bool.and_false, Bool.or_true, Bool.true_or, Bool.or_false, Bool.false_or, if_true, Bool.false_eq_true, if_false, Nat.sub_self, Nat.reduceAdd, Nat.reduceSub, Nat.reduceEqDiff, ite_true, ite_false, Nat.reduceLeDiff, et, hT', ew, H.g1, H.g2, H.g3, H.g4, hw _ _ _ _ ha, pl_own ha, pl_thaw ha, pl_own hb, pl_thaw hb, h1, e]
    | _ => simp [isT] at hT
  · have hF : isNet x = false := by
      unfold isNet
      split
      · simp [isT] at hT
      · rfl
    have hT := Bool.eq_false_iff.mpr hT
    simp only [evF_end, end_nx, end_rt, FU, e_non, e_bl, e_int, e_str, e_ty, e_var, getV_some, e_glo, e_tup, e_lst, e_bin, e_neg, negV_int, e_not, e_and, e_or, andV_bl, orV_bl, and_pure, or_pure, e_cmp, e_chain, e_ite, e_idx, e_sli, e_gcd, gcdV_int, e_call, callR_ret, e_bi, e_comp, l_nil, l_cons, s_nil, s_cons, then_nx, then_rt, turn_eq, ife_t, ife_f, ifeG_eq, c_asg, c_ret, c_retO, c_exp, c_ife, c_for, c_asgO, c_app, c_sset, g0, gS, st0, stS, thaw_tup, thaw_lst, thaw_own, thaw_int, thaw_bl, thaw_str, thaw_non, thaw_stm, own_tup, own_lst, own_own, own_int, own_bl, own_str, own_non, own_ty, own_stm, tru_bl, tru_int, seq_tup, seq_lst, seq_own, lst_lst, lst_own, add_int, sub_int, eq_int, ne_int, lt_int', le_int', gt_int', ge_int', ne_bl, eq_bl, idx_tup, idx_lst, idx_own, len_1, all_1, any_1, sum_1, tuple_1, list_1, sorted_1, int_1, abs_1, type_1, bind_nm, bind_tp, bind_tpl, min1_1, max1_1, mind_1, min2_1, max2_1, it_enum, enumB_lst, c_par, it_seq, it_rng1, it_rng2, rngA_int, rngB_int, it_zip, zip_tup, zip_lst, par_none, par_some, parB_int, sli_tup, sli_lst, step_none, step_some, wipe_nil, wipe_cons, List.map_cons, List.map_nil, List.length_cons, len_nil, List.all_cons, List.all_nil, List.replicate, List.cons_append, List.nil_append, List.append_nil, List.zip_cons_cons, List.zip_nil_right, List.foldl_cons, List.foldl_nil, eq_self, Option.bind_some, Option.map_some, Bool.not_false, Bool.not_true, Bool.true_and, Bool.and_true, Bool.false_and, Bool.and_false, Bool.or_true, Bool.true_or, Bool.or_false, Bool.false_or, if_true, Bool.false_eq_true, if_false, Nat.sub_self, Nat.reduceAdd, Nat.reduceSub, Nat.reduceEqDiff, ite_true, ite_false, Nat.reduceLeDiff, et, ht _ _ _ _ hx, hT, pl_own hx, pl_thaw hx, hF]
def NeedNetOk (φ : Fn) : Prop := ∀ x S, x.pl = true → isNet x = true → φ [x] S = some (.ret .non, S)
theorem needNet_ok {T : Tbl} (H : ∃ φ, T.fn "is_net" = some (1, φ) ∧ NetOk φ) : NeedNetOk (evF T 1 P.c_need_net) := by
  intro x S hx h
  obtain ⟨φ, e, hn⟩ := H
  unfold P.c_need_net
  simp only [evF_end, end_nx, end_rt, FU, e_non, e_bl, e_int, e_str, e_ty, e_var, getV_some, e_glo, e_tup, e_lst, e_bin, e_neg, negV_int, e_not, e_and, e_or, andV_bl, orV_bl, and_pure, or_pure, e_cmp, e_chain, e_ite, e_idx, e_sli, e_gcd, gcdV_int, e_call, callR_ret, e_bi, e_comp, l_nil, l_cons, s_nil, s_cons, then_nx, then_rt, turn_eq, ife_t, ife_f, ifeG_eq, c_asg, c_ret, c_retO, c_exp, c_ife, c_for, c_asgO, c_app, c_sset, g0, gS, st0, stS, thaw_tup, thaw_lst, thaw_own, thaw_int, thaw_bl, thaw_str, thaw_non, thaw_stm, own_tup, own_lst, own_own, own_int, own_bl, own_str, own_non, own_ty, own_stm, tru_bl, tru_int, seq_tup, seq_lst, seq_own, lst_lst, lst_own, add_int, sub_int, eq_int, ne_int, lt_int', le_int', gt_int', ge_int', ne_bl, eq_bl, idx_tup, idx_lst, idx_own, len_1, all_1, any_1, sum_1, tuple_1, list_1, sorted_1, int_1, abs_1, type_1, bind_nm, bind_tp, bind_tpl, min1_1, max1_1, mind_1, min2_1, max2_1, it_enum, enumB_lst, c_par, it_seq, it_rng1, it_rng2, rngA_int, rngB_int, it_zip, zip_tup, zip_lst, par_none, par_some, parB_int, sli_tup, sli_lst, step_none, step_some, wipe_nil, wipe_cons, List.map_cons, List.map_nil, List.length_cons, len_nil, List.all_cons, List.all_nil, List.replicate, List.cons_append, List.nil_append, List.append_nil, List.zip_cons_cons, List.zip_nil_right, List.foldl_cons, List.foldl_nil, eq_self, Option.bind_some, Option.map_some, Bool.not_false, Bool.not_true, Bool.true_and, Bool.and_true, Bool.false_and, Bool.and_false, Bool.or_true, Bool.true_or, Bool.or_false, Bool.false_or, if_true, Bool.false_eq_true, if_false, Nat.sub_self, Nat.reduceAdd, Nat.reduceSub, Nat.reduceEqDiff, ite_true, ite_false, Nat.reduceLeDiff, e, hn _ _ hx, pl_own hx, pl_thaw hx, h]

/-! ### sets of points -/
def isSome' (x : PV) (l n : Int) : Bool :=
  match x with
  | .tup xs => decide (1 ≤ (xs.length : Int)) && decide ((xs.length : Int) ≤ n - 1) && (match ints? xs with | some ns => (ns.all fun i => decide (l ≤ i) && decide (i ≤ n - 1)) && ascI ns | none => false)
  | _ => false
def rising (xs : List PV) (l m : Int) : Bool := match ints? xs with | some ns => (ns.all fun i => decide (l ≤ i) && decide (i ≤ m)) && ascI ns | none => false
structure Tr (T : Tbl) : Prop where
  w : ∃ φ, T.fn "is_within" = some (3, φ) ∧ WithinOk φ
  a : ∃ φ, T.fn "is_ascending" = some (1, φ) ∧ AscOk φ
def RisingOk (φ : Fn) : Prop := ∀ xs l m S, PV.pls xs = true → xs.length ≤ LIM → φ [.tup xs, .int l, .int m] S = some (.ret (.bl (rising xs l m)), S)
structure Ts (T : Tbl) : Prop where
  t : ∃ φ, T.fn "is_tuple" = some (3, φ) ∧ IsTupOk φ
  r : ∃ φ, T.fn "are_rising" = some (3, φ) ∧ RisingOk φ
def SomeOk (φ : Fn) : Prop := ∀ x l n S, x.pl = true → n ≤ 1000 → φ [x, .int l, .int n] S = some (.ret (.bl (isSome' x l n)), S)
theorem ints_pl : ∀ {l : List Int}, PV.pls (l.map PV.int) = true
  | [] => rfl
  | x :: l => by rw [List.map_cons, PV.pls, pl_int, ints_pl]; rfl
theorem ints_allW {l m : Int} : ∀ {xs : List PV}, (∀ x ∈ xs, isW x l m = true) → ∃ ns : List Int, xs = ns.map PV.int ∧ (ns.all fun i => decide (l ≤ i) && decide (i ≤ m)) = true
  | [], _ => ⟨[], rfl, rfl⟩
  | x :: xs, h => by
    obtain ⟨i, rfl, h1, h2⟩ := isW_int (h x List.mem_cons_self)
    obtain ⟨ns, rfl, h3⟩ := ints_allW fun y hy => h y (List.mem_cons_of_mem _ hy)
    exact ⟨i :: ns, rfl, by rw [List.all_cons, decide_eq_true h1, decide_eq_true h2, h3]; rfl⟩
theorem rising_ok {T : Tbl} (H : Tr T) : RisingOk (evF T 4 P.c_are_rising) := by
  intro xs l m S hxs hlen
  obtain ⟨φw, ew, hw⟩ := H.w
  obtain ⟨φa, ea, ha⟩ := H.a
  unfold P.c_are_rising
  have step : ∀ y ∈ xs, stepV (fun e env S => evE T 57 e env S) (.call "is_within" [.var 3, .var 1, .var 2]) (.nm 3) none [some (.tup xs), some (.int l), some (.int m), none] y S = some (some (.bl (isW y l m)), S) := by
    intro y hy
    have hyp := pls_all hxs y hy
    simp only [evF_end, end_nx, end_rt, FU, e_non, e_bl, e_int, e_str, e_ty, e_var, getV_some, e_glo, e_tup, e_lst, e_bin, e_neg, negV_int, e_not, e_and, e_or, andV_bl, orV_bl, and_pure, or_pure, e_cmp, e_chain, e_ite, e_idx, e_sli, e_gcd, gcdV_int, e_call, callR_ret, e_bi, e_comp, l_nil, l_cons, s_nil, s_cons, then_nx, then_rt, turn_eq, ife_t, ife_f, ifeG_eq, c_asg, c_ret, c_retO, c_exp, c_ife, c_for, c_asgO, c_app, c_sset, g0, gS, st0, stS, thaw_tup, thaw_lst, thaw_own, thaw_int, thaw_bl, thaw_str, thaw_non, thaw_stm, own_tup, own_lst, own_own, own_int, own_bl, own_str, own_non, own_ty, own_stm, tru_bl, tru_int, seq_tup, seq_lst, seq_own, lst_lst, lst_own, add_int, sub_int, eq_int, ne_int, lt_int', le_int', gt_int', ge_int', ne_bl, eq_bl, idx_tup, idx_lst, idx_own, len_1, all_1, any_1, sum_1, tuple_1, list_1, sorted_1, int_1, abs_1, type_1, bind_nm, bind_tp, bind_tpl, min1_1, max1_1, mind_1, min2_1, max2_1, it_enum, enumB_lst, c_par, it_seq, it_rng1, it_rng2, rngA_int, rngB_int, it_zip, zip_tup, zip_lst, par_none, par_some, parB_int, sli_tup, sli_lst, step_none, step_some, wipe_nil, wipe_cons, List.map_cons, List.map_nil, List.length_cons, len_nil, List.all_cons, List.all_nil, List.replicate, List.cons_append, List.nil_append, List.append_nil, List.zip_cons_cons, List.zip_nil_right, List.foldl_cons, List.foldl_nil, eq_self, Option.bind_some, Option.map_some, Bool.not_false, Bool.not_true, Bool.true_and, Bool.and_true, Bool.false_and, Bool.and_false, Bool.or_true, Bool.true_or, Bool.or_false, Bool.false_or, if_true, Bool.false_eq_true, if_false, Nat.sub_self, Nat.reduceAdd, Nat.reduceSub, Nat.reduceEqDiff, ite_true, ite_false, Nat.reduceLeDiff, ew, hw _ _ _ _ hyp, pl_own hyp, pl_thaw hyp]
  have w1 := compL_pure (g := fun y => some (.bl (isW y l m))) step
  have e1 : xs.filterMap (fun y => some (PV.bl (isW y l m))) = (xs.map fun y => isW y l m).map PV.bl := by rw [List.filterMap_eq_map', List.map_map]; rfl
  rw [e1] at w1
  by_cases hall : ∀ y ∈ xs, isW y l m = true
  · obtain ⟨ns, rfl, e2⟩ := ints_allW hall
    have h4 : ((ns.map PV.int).map fun y => isW y l m).all id = true := by
      rw [List.all_map]; exact List.all_eq_true.mpr fun y hy => hall y hy
    obtain ⟨bs, b1, b2⟩ := ascL_int ns
    have hal : ∀ S, φa [.tup (ns.map PV.int)] S = some (.ret (.bl (ascI ns)), S) := fun S => by
      rw [ha _ _ bs S (.inl rfl) ints_pl hlen b1, b2]
    have hr : rising (ns.map PV.int) l m = ascI ns := by
      unfold rising
      rw [ints_map]
      dsimp only
      rw [e2]; rfl
    rw [hr]
    simp only [evF_end, end_nx, end_rt, FU, e_non, e_bl, e_int, e_str, e_ty, e_var, getV_some, e_glo, e_tup, e_lst, e_bin, e_neg, negV_int, e_not, e_and, e_or, andV_bl, orV_bl, and_pure, or_pure, e_cmp, e_chain, e_ite, e_idx, e_sli, e_gcd, gcdV_int, e_call, callR_ret, e_bi, e_comp, l_nil, l_cons, s_nil, s_cons, then_nx, then_rt, turn_eq, ife_t, ife_f, ifeG_eq, c_asg, c_ret, c_retO, c_exp, c_ife, c_for, c_asgO, c_app, c_sset, g0, gS, st0, stS, thaw_tup, thaw_lst, thaw_own, thaw_int, thaw_bl, thaw_str, thaw_non, thaw_stm, own_tup, own_lst, own_own, own_int, own_bl, own_str, own_non, own_ty, own_stm, tru_bl, tru_int, seq_tup, seq_lst, seq_own, lst_lst, lst_own, add_int, sub_int, eq_int, ne_int, lt_int', le_int', gt_int', ge_int', ne_bl, eq_bl, idx_tup, idx_lst, idx_own, len_1, all_1, any_1, sum_1, tuple_1, list_1, sorted_1, int_1, abs_1, type_1, bind_nm, bind_tp, bind_tpl, min1_1, max1_1, mind_1, min2_1, max2_1, it_enum, enumB_lst, c_par, it_seq, it_rng1, it_rng2, rngA_int, rngB_int, it_zip, zip_tup, zip_lst, par_none, par_some, parB_int, sli_tup, sli_lst, step_none, step_some, wipe_nil, wipe_cons, List.map_cons, List.map_nil, List.length_cons, len_nil, List.all_cons, List.all_nil, List.replicate, List.cons_append, List.nil_append, List.append_nil, List.zip_cons_cons, List.zip_nil_right, List.foldl_cons, List.foldl_nil, eq_self, Option.bind_some, Option.map_some, Bool.not_false, Bool.not_true, Bool.true_and, Bool.and_true, Bool.false_and, Bool.and_false, Bool.or_true, Bool.true_or, Bool.or_false, Bool.false_or, if_true, Bool.false_eq_true, if_false, Nat.sub_self, Nat.reduceAdd, Nat.reduceSub, Nat.reduceEqDiff, ite_true, ite_false, Nat.reduceLeDiff, hlen, w1, bls_map, h4, ea, hal]
  · have h4 : (xs.map fun y => isW y l m).all id = false := by
      rw [List.all_map]
      refine Bool.eq_false_iff.mpr fun z => hall fun y hy => List.all_eq_true.mp z y hy
    have hr : rising xs l m = false := by
      unfold rising
      split
      · rename_i ns hns
        have := ints_of hns
        subst this
        have : (ns.all fun i => decide (l ≤ i) && decide (i ≤ m)) = false := by
          refine Bool.eq_false_iff.mpr fun z => hall fun y hy => ?_
          obtain ⟨i, hi, rfl⟩ := List.mem_map.mp hy
          exact List.all_eq_true.mp z i hi
        rw [this]; simp
      · rfl
    rw [hr]
    simp only [evF_end, end_nx, end_rt, FU, e_non, e_bl, e_int, e_str, e_ty, e_var, getV_some, e_glo, e_tup, e_lst, e_bin, e_neg, negV_int, e_not, e_and, e_or, andV_bl, orV_bl, and_pure, or_pure, e_cmp, e_chain, e_ite, e_idx, e_sli, e_gcd, gcdV_int, e_call, callR_ret, e_bi, e_comp, l_nil, l_cons, s_nil, s_cons, then_nx, then_rt, turn_eq, ife_t, ife_f, ifeG_eq, c_asg, c_ret, c_retO, c_exp, c_ife, c_for, c_asgO, c_app, c_sset, g0, gS, st0, stS, thaw_tup, thaw_lst, thaw_own, thaw_int, thaw_bl, thaw_str, thaw_non, thaw_stm, own_tup, own_lst, own_own, own_int, own_bl, own_str, own_non, own_ty, own_stm, tru_bl, tru_int, seq_tup, seq_lst, seq_own, lst_lst, lst_own, add_int, sub_int, eq_int, ne_int, lt_int', le_int', gt_int', ge_int', ne_bl, eq_bl, idx_tup, idx_lst, idx_own, len_1, all_1, any_1, sum_1, tuple_1, list_1, sorted_1, int_1, abs_1, type_1, bind_nm, bind_tp, bind_tpl, min1_1, max1_1, mind_1, min2_1, max2_1, it_enum, enumB_lst, c_par, it_seq, it_rng1, it_rng2, rngA_int, rngB_int, it_zip, zip_tup, zip_lst, par_none, par_some, parB_int, sli_tup, sli_lst, step_none, step_some, wipe_nil, wipe_cons, List.map_cons, List.map_nil, List.length_cons, len_nil, List.all_cons, List.all_nil, List.replicate, List.cons_append, List.nil_append, List.append_nil, List.zip_cons_cons, List.zip_nil_right, List.foldl_cons, List.foldl_nil, eq_self, Option.bind_some, Option.map_some, Bool.not_false, Bool.not_true, Bool.true_and, Bool.and_true, Bool.false_and, Bool.and_false, Bool.or_true, Bool.true_or, Bool.or_false, Bool.false_or, if_true, Bool.false_eq_true, if_false, Nat.sub_self, Nat.reduceAdd, Nat.reduceSub, Nat.reduceEqDiff, ite_true, ite_false, Nat.reduceLeDiff, hlen, w1, bls_map, h4]
theorem some_ok {T : Tbl} (H : Ts T) : SomeOk (evF T 3 P.c_are_some) := by
  intro x l n S hx hn
  obtain ⟨φt, et, ht⟩ := H.t
  obtain ⟨φr, er, hr⟩ := H.r
  unfold P.c_are_some
  by_cases hT : isT x 1 (n - 1) = true
  · cases x with
    | tup xs =>
      have hxs : PV.pls xs = true := by simpa [PV.pl] using hx
      have hT' : ∀ S, φt [.tup xs, .int 1, .int (n - 1)] S = some (.ret (.bl true), S) := fun S => by rw [ht _ _ _ _ hx, hT]
      simp only [isT, Bool.and_eq_true, decide_eq_true_eq] at hT
      have hlen : xs.length ≤ LIM := by unfold LIM; omega
      have e : isSome' (.tup xs) l n = rising xs l (n - 1) := by
        show (decide (1 ≤ (xs.length : Int)) && decide ((xs.length : Int) ≤ n - 1) && rising xs l (n - 1)) = _
        rw [decide_eq_true hT.1, decide_eq_true hT.2]; rfl
      rw [e]
      simp only [evF_end, end_nx, end_rt, FU, e_non, e_bl, e_int, e_str, e_ty, e_var, getV_some, e_glo, e_tup, e_lst, e_bin, e_neg, negV_int, e_not, e_and, e_or, andV_bl, orV_bl, and_pure, or_pure, e_cmp, e_chain, e_ite, e_idx, e_sli, e_gcd, gcdV_int, e_call, callR_ret, e_bi, e_comp, l_nil, l_cons, s_nil, s_cons, then_nx, then_rt, turn_eq, ife_t, ife_f, ifeG_eq, c_asg, c_ret, c_retO, c_exp, c_ife, c_for, c_asgO, c_app, c_sset, g0, gS, st0, stS, thaw_tup, thaw_lst, thaw_own, thaw_int, thaw_bl, thaw_str, thaw_non, thaw_stm, own_tup, own_lst, own_own, own_int, own_bl, own_str, own_non, own_ty, own_stm, tru_bl, tru_int, seq_tup, seq_lst, seq_own, lst_lst, lst_own, add_int, sub_int, eq_int, ne_int, lt_int', le_int', gt_int', ge_int', ne_bl, eq_bl, idx_tup, idx_lst, idx_own, len_1, all_1, any_1, sum_1, tuple_1, list_1, sorted_1, int_1, abs_1, type_1, bind_nm, bind_tp, bind_tpl, min1_1, max1_1, mind_1, min2_1, max2_1, it_enum, enumB_lst, c_par, it_seq, it_rng1, it_rng2, rngA_int, rngB_int, it_zip, zip_tup, zip_lst, par_none, par_some, parB_int, sli_tup, sli_lst, step_none, step_some, wipe_nil, wipe_cons, List.map_cons, List.map_nil, List.length_cons, len_nil, List.all_cons, List.all_nil, List.replicate, List.cons_append, List.nil_append, List.append_nil, List.zip_cons_cons, List.zip_nil_right, List.foldl_cons, List.foldl_nil, eq_self, Option.bind_some, Option.map_some, Bool.not_false, Bool.not_true, Bool.true_and, Bool.and_true, Bool.false_and, Bool.and_false, Bool.or_true, Bool.true_or, Bool.or_false, Bool.false_or, if_true, Bool.false_eq_true, if_false, Nat.sub_self, Nat.reduceAdd, Nat.reduceSub, Nat.reduceEqDiff, ite_true, ite_false, Nat.reduceLeDiff, et, hT', er, hr xs l (n - 1) S hxs hlen]
    | _ => simp [isT] at hT
  · have hF : isSome' x l n = false := by
      unfold isSome'
      split
      · rename_i xs
        have : (decide (1 ≤ (xs.length : Int)) && decide ((xs.length : Int) ≤ n - 1)) = false := Bool.eq_false_iff.mpr fun z => hT z
        rw [this]; rfl
      · rfl
    have hT := Bool.eq_false_iff.mpr hT
    simp only [evF_end, end_nx, end_rt, FU, e_non, e_bl, e_int, e_str, e_ty, e_var, getV_some, e_glo, e_tup, e_lst, e_bin, e_neg, negV_int, e_not, e_and, e_or, andV_bl, orV_bl, and_pure, or_pure, e_cmp, e_chain, e_ite, e_idx, e_sli, e_gcd, gcdV_int, e_call, callR_ret, e_bi, e_comp, l_nil, l_cons, s_nil, s_cons, then_nx, then_rt, turn_eq, ife_t, ife_f, ifeG_eq, c_asg, c_ret, c_retO, c_exp, c_ife, c_for, c_asgO, c_app, c_sset, g0, gS, st0, stS, thaw_tup, thaw_lst, thaw_own, thaw_int, thaw_bl, thaw_str, thaw_non, thaw_stm, own_tup, own_lst, own_own, own_int, own_bl, own_str, own_non, own_ty, own_stm, tru_bl, tru_int, seq_tup, seq_lst, seq_own, lst_lst, lst_own, add_int, sub_int, eq_int, ne_int, lt_int', le_int', gt_int', ge_int', ne_bl, eq_bl, idx_tup, idx_lst, idx_own, len_1, all_1, any_1, sum_1, tuple_1, list_1, sorted_1, int_1, abs_1, type_1, bind_nm, bind_tp, bind_tpl, min1_1, max1_1, mind_1, min2_1, max2_1, it_enum, enumB_lst, c_par, it_seq, it_rng1, it_rng2, rngA_int, rngB_int, it_zip, zip_tup, zip_lst, par_none, par_some, parB_int, sli_tup, sli_lst, step_none, step_some, wipe_nil, wipe_cons, List.map_cons, List.map_nil, List.length_cons, len_nil, List.all_cons, List.all_nil, List.replicate, List.cons_append, List.nil_append, List.append_nil, List.zip_cons_cons, List.zip_nil_right, List.foldl_cons, List.foldl_nil, eq_self, Option.bind_some, Option.map_some, Bool.not_false, Bool.not_true, Bool.true_and, Bool.and_true, Bool.false_and, Bool.and_false, Bool.or_true, Bool.true_or, Bool.or_false, Bool.false_or, if_true, Bool.false_eq_true, if_false, Nat.sub_self, Nat.reduceAdd, Nat.reduceSub, Nat.reduceEqDiff, ite_true, ite_false, Nat.reduceLeDiff, et, ht _ _ _ _ hx, hT, pl_own hx, pl_thaw hx, hF]
/-- the net of points and roads -/
def netV (n : Int) (ls : List Lk) : PV := .tup [.int n, .tup (ls.map lk)]
def ptsV (ns : List Int) : PV := .tup (ns.map .int)
structure GoodNet (n : Int) (ls : List Lk) : Prop where
  lo : 2 ≤ n
  hi : n ≤ 7
  len : ls.length ≤ 15
  good : ∀ r ∈ ls, goodLk n 6 r = true
  asc : ascP ls = true
theorem lk_pl {r : Lk} : (lk r).pl = true := by simp [lk, PV.pl, PV.pls]
theorem lks_pl {ls : List Lk} : PV.pls (ls.map lk) = true := pls_of fun x h => by obtain ⟨r, _, rfl⟩ := List.mem_map.mp h; exact lk_pl
theorem netV_pl {n : Int} {ls : List Lk} : (netV n ls).pl = true := by simp [netV, PV.pl, PV.pls, lks_pl]
theorem pts_pl {ns : List Int} : (ptsV ns).pl = true := by unfold ptsV; rw [pl_tup]; exact ints_pl
theorem goodNet {n : Int} {ls : List Lk} (g : GoodNet n ls) : isNet (netV n ls) = true := by
  show (decide (2 ≤ n) && decide (n ≤ 7) && areLinks (.tup (ls.map lk)) n 15 6) = true
  obtain ⟨ls', e1, e2, e3⟩ := lks_of (p := n) (m := 6) (xs := ls.map lk) fun x h => by
    obtain ⟨r, hr, rfl⟩ := List.mem_map.mp h
    exact g.good r hr
  have inj : ∀ a b : List Lk, a.map lk = b.map lk → a = b := by
    intro a
    induction a with
    | nil => intro b h; cases b with | nil => rfl | cons _ _ => simp at h
    | cons x a ih =>
      intro b h
      cases b with
      | nil => simp at h
      | cons y b =>
        simp only [List.map_cons, List.cons.injEq] at h
        have : x = y := by
          have := h.1
          unfold lk at this
          simp only [PV.tup.injEq, List.cons.injEq, PV.int.injEq, and_true] at this
          exact Prod.ext this.1 (Prod.ext this.2.1 this.2.2)
        rw [this, ih b h.2]
  have := inj _ _ e1
  subst this
  unfold areLinks
  dsimp only
  rw [e2, decide_eq_true g.lo, decide_eq_true g.hi, decide_eq_true (by rw [List.length_map]; have := g.len; omega)]
  exact g.asc
/-- a fence -/
structure GoodFence (n : Int) (ns : List Int) : Prop where
  ne : 1 ≤ ns.length
  lt : (ns.length : Int) ≤ n - 1
  all : ∀ i ∈ ns, 1 ≤ i ∧ i ≤ n - 1
  asc : ascI ns = true
theorem goodFence {n : Int} {ns : List Int} (g : GoodFence n ns) : isSome' (ptsV ns) 1 n = true := by
  unfold isSome' ptsV
  dsimp only
  rw [ints_map, decide_eq_true (by have := g.ne; rw [List.length_map]; omega), decide_eq_true (by rw [List.length_map]; exact g.lt)]
  dsimp only
  have h : (ns.all fun i => decide (1 ≤ i) && decide (i ≤ n - 1)) = true := List.all_eq_true.mpr fun i hi => by rw [decide_eq_true (g.all i hi).1, decide_eq_true (g.all i hi).2]; rfl
  rw [g.asc, h]; rfl
def FenceOk (φ : Fn) : Prop := ∀ n ls x S, GoodNet n ls → x.pl = true → φ [netV n ls, x] S = some (.ret (.bl (isSome' x 1 n)), S)
theorem fence_ok {T : Tbl} (H1 : ∃ φ, T.fn "need_net" = some (1, φ) ∧ NeedNetOk φ) (H2 : ∃ φ, T.fn "are_some" = some (3, φ) ∧ SomeOk φ) : FenceOk (evF T 2 P.c_is_fence) := by
  intro n ls x S g hx
  obtain ⟨φ1, e1, h1⟩ := H1
  obtain ⟨φ2, e2, h2⟩ := H2
  have hn : n ≤ 1000 := by have := g.hi; omega
  have h1' : ∀ S, φ1 [netV n ls] S = some (.ret .non, S) := fun S => h1 _ _ netV_pl (goodNet g)
  unfold P.c_is_fence
  unfold netV at h1' ⊢
  simp only [evF_end, end_nx, end_rt, FU, e_non, e_bl, e_int, e_str, e_ty, e_var, getV_some, e_glo, e_tup, e_lst, e_bin, e_neg, negV_int, e_not, e_and, e_or, andV_bl, orV_bl, and_pure, or_pure, e_cmp, e_chain, e_ite, e_idx, e_sli, e_gcd, gcdV_int, e_call, callR_ret, e_bi, e_comp, l_nil, l_cons, s_nil, s_cons, then_nx, then_rt, turn_eq, ife_t, ife_f, ifeG_eq, c_asg, c_ret, c_retO, c_exp, c_ife, c_for, c_asgO, c_app, c_sset, g0, gS, st0, stS, thaw_tup, thaw_lst, thaw_own, thaw_int, thaw_bl, thaw_str, thaw_non, thaw_stm, own_tup, own_lst, own_own, own_int, own_bl, own_str, own_non, own_ty, own_stm, tru_bl, tru_int, seq_tup, seq_lst, seq_own, lst_lst, lst_own, add_int, sub_int, eq_int, ne_int, lt_int', le_int', gt_int', ge_int', ne_bl, eq_bl, idx_tup, idx_lst, idx_own, len_1, all_1, any_1, sum_1, tuple_1, list_1, sorted_1, int_1, abs_1, type_1, bind_nm, bind_tp, bind_tpl, min1_1, max1_1, mind_1, min2_1, max2_1, it_enum, enumB_lst, c_par, it_seq, it_rng1, it_rng2, rngA_int, rngB_int, it_zip, zip_tup, zip_lst, par_none, par_some, parB_int, sli_tup, sli_lst, step_none, step_some, wipe_nil, wipe_cons, List.map_cons, List.map_nil, List.length_cons, len_nil, List.all_cons, List.all_nil, List.replicate, List.cons_append, List.nil_append, List.append_nil, List.zip_cons_cons, List.zip_nil_right, List.foldl_cons, List.foldl_nil, eq_self, Option.bind_some, Option.map_some, Bool.not_false, Bool.not_true, Bool.true_and, Bool.and_true, Bool.false_and, Bool.and_false, Bool.or_true, Bool.true_or, Bool.or_false, Bool.false_or, if_true, Bool.false_eq_true, if_false, Nat.sub_self, Nat.reduceAdd, Nat.reduceSub, Nat.reduceEqDiff, ite_true, ite_false, Nat.reduceLeDiff, e1, h1', show ∀ a b : PV, atI [a, b] 0 = some a from fun a b => rfl, e2, h2 _ _ _ _ hx hn, pl_own hx, pl_thaw hx]
def NeedFenceOk (φ : Fn) : Prop := ∀ n ls ns S, GoodNet n ls → GoodFence n ns → φ [netV n ls, ptsV ns] S = some (.ret .non, S)
theorem needFence_ok {T : Tbl} (H : ∃ φ, T.fn "is_fence" = some (2, φ) ∧ FenceOk φ) : NeedFenceOk (evF T 2 P.c_need_fence) := by
  intro n ls ns S g f
  obtain ⟨φ, e, h⟩ := H
  have h' : ∀ S, φ [netV n ls, ptsV ns] S = some (.ret (.bl true), S) := fun S => by rw [h _ _ _ _ g pts_pl, goodFence f]
  unfold P.c_need_fence
  unfold netV ptsV at h' ⊢
  simp only [evF_end, end_nx, end_rt, FU, e_non, e_bl, e_int, e_str, e_ty, e_var, getV_some, e_glo, e_tup, e_lst, e_bin, e_neg, negV_int, e_not, e_and, e_or, andV_bl, orV_bl, and_pure, or_pure, e_cmp, e_chain, e_ite, e_idx, e_sli, e_gcd, gcdV_int, e_call, callR_ret, e_bi, e_comp, l_nil, l_cons, s_nil, s_cons, then_nx, then_rt, turn_eq, ife_t, ife_f, ifeG_eq, c_asg, c_ret, c_retO, c_exp, c_ife, c_for, c_asgO, c_app, c_sset, g0, gS, st0, stS, thaw_tup, thaw_lst, thaw_own, thaw_int, thaw_bl, thaw_str, thaw_non, thaw_stm, own_tup, own_lst, own_own, own_int, own_bl, own_str, own_non, own_ty, own_stm, tru_bl, tru_int, seq_tup, seq_lst, seq_own, lst_lst, lst_own, add_int, sub_int, eq_int, ne_int, lt_int', le_int', gt_int', ge_int', ne_bl, eq_bl, idx_tup, idx_lst, idx_own, len_1, all_1, any_1, sum_1, tuple_1, list_1, sorted_1, int_1, abs_1, type_1, bind_nm, bind_tp, bind_tpl, min1_1, max1_1, mind_1, min2_1, max2_1, it_enum, enumB_lst, c_par, it_seq, it_rng1, it_rng2, rngA_int, rngB_int, it_zip, zip_tup, zip_lst, par_none, par_some, parB_int, sli_tup, sli_lst, step_none, step_some, wipe_nil, wipe_cons, List.map_cons, List.map_nil, List.length_cons, len_nil, List.all_cons, List.all_nil, List.replicate, List.cons_append, List.nil_append, List.append_nil, List.zip_cons_cons, List.zip_nil_right, List.foldl_cons, List.foldl_nil, eq_self, Option.bind_some, Option.map_some, Bool.not_false, Bool.not_true, Bool.true_and, Bool.and_true, Bool.false_and, Bool.and_false, Bool.or_true, Bool.true_or, Bool.or_false, Bool.false_or, if_true, Bool.false_eq_true, if_false, Nat.sub_self, Nat.reduceAdd, Nat.reduceSub, Nat.reduceEqDiff, ite_true, ite_false, Nat.reduceLeDiff, e, h']
/-- membership among points -/
theorem mem_int {i : Int} {ns : List Int} : memV (.int i) (ns.map .int) = some (decide (i ∈ ns)) := by
  unfold memV
  rw [if_pos]
  · congr 1
    rw [List.any_map]
    induction ns with
    | nil => rfl
    | cons x ns ih =>
      rw [List.any_cons, ih]
      show ((x == i) || _) = _
      by_cases h : x = i
      · subst h; simp
      · have h' : ¬ i = x := fun e => h e.symm
        simp [h, h']
  · rw [List.all_map]
    simp [PV.flat1]
theorem mem_tup {i : Int} {ns : List Int} : cmpV .mem (.int i) (.tup (ns.map .int)) = some (decide (i ∈ ns)) := mem_int
theorem nmem_tup {i : Int} {ns : List Int} : cmpV .nmem (.int i) (.tup (ns.map .int)) = some (!decide (i ∈ ns)) := by
  show (memV (.int i) (ns.map .int)).map (!·) = _
  rw [mem_int]; rfl
/-- the roads between a set and the rest -/
def crossV (ls : List Lk) (ns : List Int) : Int := ((ls.filter fun r => decide (r.1 ∈ ns) != decide (r.2.1 ∈ ns)).map fun r => r.2.2).sum
def PartedOk (φ : Fn) : Prop := ∀ ns i j S, φ [ptsV ns, .int i, .int j] S = some (.ret (.bl (decide (i ∈ ns) != decide (j ∈ ns))), S)
theorem parted_ok {T : Tbl} : PartedOk (evF T 3 P.c_is_parted) := by
  intro ns i j S
  unfold P.c_is_parted ptsV
  simp only [evF_end, end_nx, end_rt, FU, e_non, e_bl, e_int, e_str, e_ty, e_var, getV_some, e_glo, e_tup, e_lst, e_bin, e_neg, negV_int, e_not, e_and, e_or, andV_bl, orV_bl, and_pure, or_pure, e_cmp, e_chain, e_ite, e_idx, e_sli, e_gcd, gcdV_int, e_call, callR_ret, e_bi, e_comp, l_nil, l_cons, s_nil, s_cons, then_nx, then_rt, turn_eq, ife_t, ife_f, ifeG_eq, c_asg, c_ret, c_retO, c_exp, c_ife, c_for, c_asgO, c_app, c_sset, g0, gS, st0, stS, thaw_tup, thaw_lst, thaw_own, thaw_int, thaw_bl, thaw_str, thaw_non, thaw_stm, own_tup, own_lst, own_own, own_int, own_bl, own_str, own_non, own_ty, own_stm, tru_bl, tru_int, seq_tup, seq_lst, seq_own, lst_lst, lst_own, add_int, sub_int, eq_int, ne_int, lt_int', le_int', gt_int', ge_int', ne_bl, eq_bl, idx_tup, idx_lst, idx_own, len_1, all_1, any_1, sum_1, tuple_1, list_1, sorted_1, int_1, abs_1, type_1, bind_nm, bind_tp, bind_tpl, min1_1, max1_1, mind_1, min2_1, max2_1, it_enum, enumB_lst, c_par, it_seq, it_rng1, it_rng2, rngA_int, rngB_int, it_zip, zip_tup, zip_lst, par_none, par_some, parB_int, sli_tup, sli_lst, step_none, step_some, wipe_nil, wipe_cons, List.map_cons, List.map_nil, List.length_cons, len_nil, List.all_cons, List.all_nil, List.replicate, List.cons_append, List.nil_append, List.append_nil, List.zip_cons_cons, List.zip_nil_right, List.foldl_cons, List.foldl_nil, eq_self, Option.bind_some, Option.map_some, Bool.not_false, Bool.not_true, Bool.true_and, Bool.and_true, Bool.false_and, Bool.and_false, Bool.or_true, Bool.true_or, Bool.or_false, Bool.false_or, if_true, Bool.false_eq_true, if_false, Nat.sub_self, Nat.reduceAdd, Nat.reduceSub, Nat.reduceEqDiff, ite_true, ite_false, Nat.reduceLeDiff, mem_tup]
def CrossOk (φ : Fn) : Prop := ∀ ls ns S, ls.length ≤ 1000 → φ [.tup (ls.map lk), ptsV ns] S = some (.ret (.int (crossV ls ns)), S)
theorem filterMap_if {α β : Type} (p : α → Bool) (f : α → β) : ∀ l : List α, l.filterMap (fun x => if p x then some (f x) else none) = (l.filter p).map f
  | [] => rfl
  | x :: l => by
    cases h : p x with
    | true => rw [List.filter_cons_of_pos h, List.map_cons, List.filterMap_cons_some (by rw [h]; rfl), filterMap_if p f l]
    | false => rw [List.filter_cons_of_neg (by rw [h]; exact Bool.false_ne_true), List.filterMap_cons_none (by rw [h]; rfl), filterMap_if p f l]
theorem cross_ok {T : Tbl} (H : ∃ φ, T.fn "is_parted" = some (3, φ) ∧ PartedOk φ) : CrossOk (evF T 5 P.c_crossing) := by
  intro ls ns S hl
  obtain ⟨φ, e, h⟩ := H
  unfold P.c_crossing ptsV
  unfold PartedOk ptsV at h
  have hlen : (ls.map lk).length ≤ LIM := by rw [List.length_map]; unfold LIM; omega
  have step : ∀ r ∈ ls, stepV (fun e env S => evE T 58 e env S) (.var 4) (.tp [2, 3, 4]) (some (.call "is_parted" [(.var 1), (.var 2), (.var 3)])) [some (.tup (ls.map lk)), some (.tup (ns.map .int)), none, none, none] (lk r) S =
      some (if decide (r.1 ∈ ns) != decide (r.2.1 ∈ ns) then some (.int r.2.2) else none, S) := by
    intro r hr
    unfold lk
    simp only [evF_end, end_nx, end_rt, FU, e_non, e_bl, e_int, e_str, e_ty, e_var, getV_some, e_glo, e_tup, e_lst, e_bin, e_neg, negV_int, e_not, e_and, e_or, andV_bl, orV_bl, and_pure, or_pure, e_cmp, e_chain, e_ite, e_idx, e_sli, e_gcd, gcdV_int, e_call, callR_ret, e_bi, e_comp, l_nil, l_cons, s_nil, s_cons, then_nx, then_rt, turn_eq, ife_t, ife_f, ifeG_eq, c_asg, c_ret, c_retO, c_exp, c_ife, c_for, c_asgO, c_app, c_sset, g0, gS, st0, stS, thaw_tup, thaw_lst, thaw_own, thaw_int, thaw_bl, thaw_str, thaw_non, thaw_stm, own_tup, own_lst, own_own, own_int, own_bl, own_str, own_non, own_ty, own_stm, tru_bl, tru_int, seq_tup, seq_lst, seq_own, lst_lst, lst_own, add_int, sub_int, eq_int, ne_int, lt_int', le_int', gt_int', ge_int', ne_bl, eq_bl, idx_tup, idx_lst, idx_own, len_1, all_1, any_1, sum_1, tuple_1, list_1, sorted_1, int_1, abs_1, type_1, bind_nm, bind_tp, bind_tpl, min1_1, max1_1, mind_1, min2_1, max2_1, it_enum, enumB_lst, c_par, it_seq, it_rng1, it_rng2, rngA_int, rngB_int, it_zip, zip_tup, zip_lst, par_none, par_some, parB_int, sli_tup, sli_lst, step_none, step_some, wipe_nil, wipe_cons, List.map_cons, List.map_nil, List.length_cons, len_nil, List.all_cons, List.all_nil, List.replicate, List.cons_append, List.nil_append, List.append_nil, List.zip_cons_cons, List.zip_nil_right, List.foldl_cons, List.foldl_nil, eq_self, Option.bind_some, Option.map_some, Bool.not_false, Bool.not_true, Bool.true_and, Bool.and_true, Bool.false_and, Bool.and_false, Bool.or_true, Bool.true_or, Bool.or_false, Bool.false_or, if_true, Bool.false_eq_true, if_false, Nat.sub_self, Nat.reduceAdd, Nat.reduceSub, Nat.reduceEqDiff, ite_true, ite_false, Nat.reduceLeDiff, e, h]
    cases (decide (r.1 ∈ ns) != decide (r.2.1 ∈ ns)) <;> rfl
  have w := compL_map (f := lk) (g := fun r => if decide (r.1 ∈ ns) != decide (r.2.1 ∈ ns) then some (.int r.2.2) else none) step
  rw [filterMap_if (fun r : Lk => decide (r.1 ∈ ns) != decide (r.2.1 ∈ ns)) (fun r => PV.int r.2.2)] at w
  have e : ((ls.filter fun r => decide (r.1 ∈ ns) != decide (r.2.1 ∈ ns)).map fun r => PV.int r.2.2) = ((ls.filter fun r => decide (r.1 ∈ ns) != decide (r.2.1 ∈ ns)).map fun r => r.2.2).map PV.int := by rw [List.map_map]; rfl
  rw [e] at w
  simp only [evF_end, end_nx, end_rt, FU, e_non, e_bl, e_int, e_str, e_ty, e_var, getV_some, e_glo, e_tup, e_lst, e_bin, e_neg, negV_int, e_not, e_and, e_or, andV_bl, orV_bl, and_pure, or_pure, e_cmp, e_chain, e_ite, e_idx, e_sli, e_gcd, gcdV_int, e_call, callR_ret, e_bi, e_comp, l_nil, l_cons, s_nil, s_cons, then_nx, then_rt, turn_eq, ife_t, ife_f, ifeG_eq, c_asg, c_ret, c_retO, c_exp, c_ife, c_for, c_asgO, c_app, c_sset, g0, gS, st0, stS, thaw_tup, thaw_lst, thaw_own, thaw_int, thaw_bl, thaw_str, thaw_non, thaw_stm, own_tup, own_lst, own_own, own_int, own_bl, own_str, own_non, own_ty, own_stm, tru_bl, tru_int, seq_tup, seq_lst, seq_own, lst_lst, lst_own, add_int, sub_int, eq_int, ne_int, lt_int', le_int', gt_int', ge_int', ne_bl, eq_bl, idx_tup, idx_lst, idx_own, len_1, all_1, any_1, sum_1, tuple_1, list_1, sorted_1, int_1, abs_1, type_1, bind_nm, bind_tp, bind_tpl, min1_1, max1_1, mind_1, min2_1, max2_1, it_enum, enumB_lst, c_par, it_seq, it_rng1, it_rng2, rngA_int, rngB_int, it_zip, zip_tup, zip_lst, par_none, par_some, parB_int, sli_tup, sli_lst, step_none, step_some, wipe_nil, wipe_cons, List.map_cons, List.map_nil, List.length_cons, len_nil, List.all_cons, List.all_nil, List.replicate, List.cons_append, List.nil_append, List.append_nil, List.zip_cons_cons, List.zip_nil_right, List.foldl_cons, List.foldl_nil, eq_self, Option.bind_some, Option.map_some, Bool.not_false, Bool.not_true, Bool.true_and, Bool.and_true, Bool.false_and, Bool.and_false, Bool.or_true, Bool.true_or, Bool.or_false, Bool.false_or, if_true, Bool.false_eq_true, if_false, Nat.sub_self, Nat.reduceAdd, Nat.reduceSub, Nat.reduceEqDiff, ite_true, ite_false, Nat.reduceLeDiff, hlen, w, ints_map]
  rfl
def WidthOk (φ : Fn) : Prop := ∀ n ls ns S, GoodNet n ls → GoodFence n ns → φ [netV n ls, ptsV ns] S = some (.ret (.int (crossV ls ns)), S)
theorem width_ok {T : Tbl} (H1 : ∃ φ, T.fn "need_fence" = some (2, φ) ∧ NeedFenceOk φ) (H2 : ∃ φ, T.fn "crossing" = some (2, φ) ∧ CrossOk φ) : WidthOk (evF T 2 P.c_width) := by
  intro n ls ns S g f
  obtain ⟨φ1, e1, h1⟩ := H1
  obtain ⟨φ2, e2, h2⟩ := H2
  have h1' : ∀ S, φ1 [netV n ls, ptsV ns] S = some (.ret .non, S) := fun S => h1 _ _ _ _ g f
  have h2' : ∀ S, φ2 [.tup (ls.map lk), ptsV ns] S = some (.ret (.int (crossV ls ns)), S) := fun S => h2 _ _ _ (by have := g.len; omega)
  unfold P.c_width
  unfold netV ptsV at h1' ⊢
  unfold ptsV at h2'
  simp only [evF_end, end_nx, end_rt, FU, e_non, e_bl, e_int, e_str, e_ty, e_var, getV_some, e_glo, e_tup, e_lst, e_bin, e_neg, negV_int, e_not, e_and, e_or, andV_bl, orV_bl, and_pure, or_pure, e_cmp, e_chain, e_ite, e_idx, e_sli, e_gcd, gcdV_int, e_call, callR_ret, e_bi, e_comp, l_nil, l_cons, s_nil, s_cons, then_nx, then_rt, turn_eq, ife_t, ife_f, ifeG_eq, c_asg, c_ret, c_retO, c_exp, c_ife, c_for, c_asgO, c_app, c_sset, g0, gS, st0, stS, thaw_tup, thaw_lst, thaw_own, thaw_int, thaw_bl, thaw_str, thaw_non, thaw_stm, own_tup, own_lst, own_own, own_int, own_bl, own_str, own_non, own_ty, own_stm, tru_bl, tru_int, seq_tup, seq_lst, seq_own, lst_lst, lst_own, add_int, sub_int, eq_int, ne_int, lt_int', le_int', gt_int', ge_int', ne_bl, eq_bl, idx_tup, idx_lst, idx_own, len_1, all_1, any_1, sum_1, tuple_1, list_1, sorted_1, int_1, abs_1, type_1, bind_nm, bind_tp, bind_tpl, min1_1, max1_1, mind_1, min2_1, max2_1, it_enum, enumB_lst, c_par, it_seq, it_rng1, it_rng2, rngA_int, rngB_int, it_zip, zip_tup, zip_lst, par_none, par_some, parB_int, sli_tup, sli_lst, step_none, step_some, wipe_nil, wipe_cons, List.map_cons, List.map_nil, List.length_cons, len_nil, List.all_cons, List.all_nil, List.replicate, List.cons_append, List.nil_append, List.append_nil, List.zip_cons_cons, List.zip_nil_right, List.foldl_cons, List.foldl_nil, eq_self, Option.bind_some, Option.map_some, Bool.not_false, Bool.not_true, Bool.true_and, Bool.and_true, Bool.false_and, Bool.and_false, Bool.or_true, Bool.true_or, Bool.or_false, Bool.false_or, if_true, Bool.false_eq_true, if_false, Nat.sub_self, Nat.reduceAdd, Nat.reduceSub, Nat.reduceEqDiff, ite_true, ite_false, Nat.reduceLeDiff, e1, h1', show ∀ a b : PV, atI [a, b] 1 = some b from fun a b => rfl, e2, h2']
end Ws

/-! Ws23: what is drawn. -/
namespace Ws
open PySem PySem.Spec L2

def SOk (S : Strm) : Prop := ∃ scr c k, S = some (scr, c, k) ∧ 0 ≤ k
theorem SOk.some {S : Strm} (h : SOk S) : S.isSome = true := by obtain ⟨_, _, _, rfl, _⟩ := h; rfl
theorem sset_1 {scr : List Int} {c k z : Int} {env : Env} {i : Nat} (h : env[i]? = some (some .stm)) : ssetV i 1 env (.int z, some (scr, c, k)) = some (.nx env, some (scr, z, k)) := by
  unfold ssetV; dsimp only; rw [h]; rfl
theorem sset_2 {scr : List Int} {c k z : Int} {env : Env} {i : Nat} (h : env[i]? = some (some .stm)) : ssetV i 2 env (.int z, some (scr, c, k)) = some (.nx env, some (scr, c, z)) := by
  unfold ssetV; dsimp only; rw [h]; rfl
theorem idx_s0 {scr : List Int} {c k : Int} : idxS (some (scr, c, k)) .stm (.int 0) = some (.lst (scr.map .int)) := rfl
theorem idx_s1 {scr : List Int} {c k : Int} : idxS (some (scr, c, k)) .stm (.int 1) = some (.int c) := rfl
theorem idx_s2 {scr : List Int} {c k : Int} : idxS (some (scr, c, k)) .stm (.int 2) = some (.int k) := rfl
def NextOk (φ : Fn) : Prop := ∀ S many, SOk S → 0 < many → many < 1073741824 → ∃ d S', φ [.stm, .int many] S = some (.ret (.int d), S') ∧ 0 ≤ d ∧ d < many ∧ SOk S'
theorem pow18 : binV .pow (.int 10) (.int 18) = some (.int (10 ^ 18)) := rfl
theorem mul_c1 {i : Int} : binV .mul (.int i) (.int 48271) = some (.int (i * 48271)) := by rw [mul_int, show sml 48271 = true by decide, Bool.or_true]; rfl
theorem mul_c2 {i : Int} : binV .mul (.int i) (.int 69621) = some (.int (i * 69621)) := by rw [mul_int, show sml 69621 = true by decide, Bool.or_true]; rfl
theorem mul_c3 {i : Int} : binV .mul (.int i) (.int 16807) = some (.int (i * 16807)) := by rw [mul_int, show sml 16807 = true by decide, Bool.or_true]; rfl
theorem mul_c4 {i : Int} : binV .mul (.int i) (.int 65537) = some (.int (i * 65537)) := by rw [mul_int, show sml 65537 = true by decide, Bool.or_true]; rfl
theorem mod_c {i : Int} : binV .mod (.int i) (.int 2147483647) = some (.int (i % 2147483647)) := by rw [mod_int, if_pos (by decide)]
theorem next_ok {T : Tbl} : NextOk (evF T 5 P.c__law_next) := by
  rintro S many ⟨scr, c, k, rfl, hk⟩ h1 h2
  have m1 : ∀ i : Int, binV .mod (.int i) (.int many) = some (.int (i % many)) := fun i => by rw [mod_int, if_pos (decide_eq_true h1)]
  have m2 : ∀ i : Int, binV .fdiv (.int i) (.int many) = some (.int (i / many)) := fun i => by rw [fdiv_int, if_pos (by rw [decide_eq_true h1, decide_eq_true h2]; rfl)]
  have d1 : ∀ i : Int, 0 ≤ i % many ∧ i % many < many := fun i => ⟨Int.emod_nonneg _ (by omega), Int.emod_lt_of_pos _ h1⟩
  unfold P.c__law_next
  have k' : 0 ≤ k + 1 := by omega
  by_cases hc : c = 0
  · subst hc
    by_cases hl : k < ((scr.map PV.int).length : Int)
    · obtain ⟨z, hz⟩ : ∃ z, atI (scr.map PV.int) k = some (.int z) := by
        unfold atI ixN
        rw [if_pos hk, if_pos hl]
        obtain ⟨z, hz⟩ : ∃ z, scr[k.toNat]? = some z := ⟨_, List.getElem?_eq_getElem (by rw [List.length_map] at hl; omega)⟩
        refine ⟨z, ?_⟩
        show (scr.map PV.int)[k.toNat]? = _
        rw [List.getElem?_map, hz]; rfl
      by_cases hb : (if z < 0 then -z else z) < 10 ^ 18
      · simp only [evF_end, end_nx, end_rt, FU, e_non, e_bl, e_int, e_str, e_ty, e_var, getV_some, e_glo, e_tup, e_lst, e_bin, e_neg, negV_int, e_not, e_and, e_or, andV_bl, orV_bl, and_pure, or_pure, e_cmp, e_chain, e_ite, e_idx, e_sli, e_gcd, gcdV_int, e_call, callR_ret, e_bi, e_comp, l_nil, l_cons, s_nil, s_cons, then_nx, then_rt, turn_eq, ife_t, ife_f, ifeG_eq, c_asg, c_ret, c_retO, c_exp, c_ife, c_for, c_asgO, c_app, c_sset, g0, gS, st0, stS, thaw_tup, thaw_lst, thaw_own, thaw_int, thaw_bl, thaw_str, thaw_non, thaw_stm, own_tup, own_lst, own_own, own_int, own_bl, own_str, own_non, own_ty, own_stm, tru_bl, tru_int, seq_tup, seq_lst, seq_own, lst_lst, lst_own, add_int, sub_int, eq_int, ne_int, lt_int', le_int', gt_int', ge_int', ne_bl, eq_bl, idx_tup, idx_lst, idx_own, len_1, all_1, any_1, sum_1, tuple_1, list_1, sorted_1, int_1, abs_1, type_1, bind_nm, bind_tp, bind_tpl, min1_1, max1_1, mind_1, min2_1, max2_1, it_enum, enumB_lst, c_par, it_seq, it_rng1, it_rng2, rngA_int, rngB_int, it_zip, zip_tup, zip_lst, par_none, par_some, parB_int, sli_tup, sli_lst, step_none, step_some, wipe_nil, wipe_cons, List.map_cons, List.map_nil, List.length_cons, len_nil, List.all_cons, List.all_nil, List.replicate, List.cons_append, List.nil_append, List.append_nil, List.zip_cons_cons, List.zip_nil_right, List.foldl_cons, List.foldl_nil, eq_self, Option.bind_some, Option.map_some, Bool.not_false, Bool.not_true, Bool.true_and, Bool.and_true, Bool.false_and, Bool.and_false, Bool.or_true, Bool.true_or, Bool.or_false, Bool.false_or, if_true, Bool.false_eq_true, if_false, Nat.sub_self, Nat.reduceAdd, Nat.reduceSub, Nat.reduceEqDiff, ite_true, ite_false, Nat.reduceLeDiff, idx_s0, idx_s1, idx_s2, decide_true, decide_eq_true hl, hz, decide_eq_true hb, pow18, mul_c1, mul_c2, mul_c3, mul_c4, mod_c, m1, m2, sset_1, sset_2]
        exact ⟨_, _, rfl, (d1 _).1, (d1 _).2, _, _, _, rfl, k'⟩
      · simp only [evF_end, end_nx, end_rt, FU, e_non, e_bl, e_int, e_str, e_ty, e_var, getV_some, e_glo, e_tup, e_lst, e_bin, e_neg, negV_int, e_not, e_and, e_or, andV_bl, orV_bl, and_pure, or_pure, e_cmp, e_chain, e_ite, e_idx, e_sli, e_gcd, gcdV_int, e_call, callR_ret, e_bi, e_comp, l_nil, l_cons, s_nil, s_cons, then_nx, then_rt, turn_eq, ife_t, ife_f, ifeG_eq, c_asg, c_ret, c_retO, c_exp, c_ife, c_for, c_asgO, c_app, c_sset, g0, gS, st0, stS, thaw_tup, thaw_lst, thaw_own, thaw_int, thaw_bl, thaw_str, thaw_non, thaw_stm, own_tup, own_lst, own_own, own_int, own_bl, own_str, own_non, own_ty, own_stm, tru_bl, tru_int, seq_tup, seq_lst, seq_own, lst_lst, lst_own, add_int, sub_int, eq_int, ne_int, lt_int', le_int', gt_int', ge_int', ne_bl, eq_bl, idx_tup, idx_lst, idx_own, len_1, all_1, any_1, sum_1, tuple_1, list_1, sorted_1, int_1, abs_1, type_1, bind_nm, bind_tp, bind_tpl, min1_1, max1_1, mind_1, min2_1, max2_1, it_enum, enumB_lst, c_par, it_seq, it_rng1, it_rng2, rngA_int, rngB_int, it_zip, zip_tup, zip_lst, par_none, par_some, parB_int, sli_tup, sli_lst, step_none, step_some, wipe_nil, wipe_cons, List.map_cons, List.map_nil, List.length_cons, len_nil, List.all_cons, List.all_nil, List.replicate, List.cons_append, List.nil_append, List.append_nil, List.zip_cons_cons, List.zip_nil_right, List.foldl_cons, List.foldl_nil, eq_self, Option.bind_some, Option.map_some, Bool.not_false, Bool.not_true, Bool.true_and, Bool.and_true, Bool.false_and, Bool.and_false, Bool.or_true, Bool.true_or, Bool.or_false, Bool.false_or, if_true, Bool.false_eq_true, if_false, Nat.sub_self, Nat.reduceAdd, Nat.reduceSub, Nat.reduceEqDiff, ite_true, ite_false, Nat.reduceLeDiff, idx_s0, idx_s1, idx_s2, decide_true, decide_eq_true hl, hz, decide_eq_false hb, pow18, mul_c1, mul_c2, mul_c3, mul_c4, mod_c, m1, m2, sset_1, sset_2]
        exact ⟨_, _, rfl, (d1 _).1, (d1 _).2, _, _, _, rfl, k'⟩
    · by_cases hb : (7 + k) < 10 ^ 18
      · simp only [evF_end, end_nx, end_rt, FU, e_non, e_bl, e_int, e_str, e_ty, e_var, getV_some, e_glo, e_tup, e_lst, e_bin, e_neg, negV_int, e_not, e_and, e_or, andV_bl, orV_bl, and_pure, or_pure, e_cmp, e_chain, e_ite, e_idx, e_sli, e_gcd, gcdV_int, e_call, callR_ret, e_bi, e_comp, l_nil, l_cons, s_nil, s_cons, then_nx, then_rt, turn_eq, ife_t, ife_f, ifeG_eq, c_asg, c_ret, c_retO, c_exp, c_ife, c_for, c_asgO, c_app, c_sset, g0, gS, st0, stS, thaw_tup, thaw_lst, thaw_own, thaw_int, thaw_bl, thaw_str, thaw_non, thaw_stm, own_tup, own_lst, own_own, own_int, own_bl, own_str, own_non, own_ty, own_stm, tru_bl, tru_int, seq_tup, seq_lst, seq_own, lst_lst, lst_own, add_int, sub_int, eq_int, ne_int, lt_int', le_int', gt_int', ge_int', ne_bl, eq_bl, idx_tup, idx_lst, idx_own, len_1, all_1, any_1, sum_1, tuple_1, list_1, sorted_1, int_1, abs_1, type_1, bind_nm, bind_tp, bind_tpl, min1_1, max1_1, mind_1, min2_1, max2_1, it_enum, enumB_lst, c_par, it_seq, it_rng1, it_rng2, rngA_int, rngB_int, it_zip, zip_tup, zip_lst, par_none, par_some, parB_int, sli_tup, sli_lst, step_none, step_some, wipe_nil, wipe_cons, List.map_cons, List.map_nil, List.length_cons, len_nil, List.all_cons, List.all_nil, List.replicate, List.cons_append, List.nil_append, List.append_nil, List.zip_cons_cons, List.zip_nil_right, List.foldl_cons, List.foldl_nil, eq_self, Option.bind_some, Option.map_some, Bool.not_false, Bool.not_true, Bool.true_and, Bool.and_true, Bool.false_and, Bool.and_false, Bool.or_true, Bool.true_or, Bool.or_false, Bool.false_or, if_true, Bool.false_eq_true, if_false, Nat.sub_self, Nat.reduceAdd, Nat.reduceSub, Nat.reduceEqDiff, ite_true, ite_false, Nat.reduceLeDiff, idx_s0, idx_s1, idx_s2, decide_true, decide_eq_false hl, decide_eq_true hb, pow18, mul_c1, mul_c2, mul_c3, mul_c4, mod_c, m1, m2, sset_1, sset_2]
        exact ⟨_, _, rfl, (d1 _).1, (d1 _).2, _, _, _, rfl, k'⟩
      · simp only [evF_end, end_nx, end_rt, FU, e_non, e_bl, e_int, e_str, e_ty, e_var, getV_some, e_glo, e_tup, e_lst, e_bin, e_neg, negV_int, e_not, e_and, e_or, andV_bl, orV_bl, and_pure, or_pure, e_cmp, e_chain, e_ite, e_idx, e_sli, e_gcd, gcdV_int, e_call, callR_ret, e_bi, e_comp, l_nil, l_cons, s_nil, s_cons, then_nx, then_rt, turn_eq, ife_t, ife_f, ifeG_eq, c_asg, c_ret, c_retO, c_exp, c_ife, c_for, c_asgO, c_app, c_sset, g0, gS, st0, stS, thaw_tup, thaw_lst, thaw_own, thaw_int, thaw_bl, thaw_str, thaw_non, thaw_stm, own_tup, own_lst, own_own, own_int, own_bl, own_str, own_non, own_ty, own_stm, tru_bl, tru_int, seq_tup, seq_lst, seq_own, lst_lst, lst_own, add_int, sub_int, eq_int, ne_int, lt_int', le_int', gt_int', ge_int', ne_bl, eq_bl, idx_tup, idx_lst, idx_own, len_1, all_1, any_1, sum_1, tuple_1, list_1, sorted_1, int_1, abs_1, type_1, bind_nm, bind_tp, bind_tpl, min1_1, max1_1, mind_1, min2_1, max2_1, it_enum, enumB_lst, c_par, it_seq, it_rng1, it_rng2, rngA_int, rngB_int, it_zip, zip_tup, zip_lst, par_none, par_some, parB_int, sli_tup, sli_lst, step_none, step_some, wipe_nil, wipe_cons, List.map_cons, List.map_nil, List.length_cons, len_nil, List.all_cons, List.all_nil, List.replicate, List.cons_append, List.nil_append, List.append_nil, List.zip_cons_cons, List.zip_nil_right, List.foldl_cons, List.foldl_nil, eq_self, Option.bind_some, Option.map_some, Bool.not_false, Bool.not_true, Bool.true_and, Bool.and_true, Bool.false_and, Bool.and_false, Bool.or_true, Bool.true_or, Bool.or_false, Bool.false_or, if_true, Bool.false_eq_true, if_false, Nat.sub_self, Nat.reduceAdd, Nat.reduceSub, Nat.reduceEqDiff, ite_true, ite_false, Nat.reduceLeDiff, idx_s0, idx_s1, idx_s2, decide_true, decide_eq_false hl, decide_eq_false hb, pow18, mul_c1, mul_c2, mul_c3, mul_c4, mod_c, m1, m2, sset_1, sset_2]
        exact ⟨_, _, rfl, (d1 _).1, (d1 _).2, _, _, _, rfl, k'⟩
  · simp only [evF_end, end_nx, end_rt, FU, e_non, e_bl, e_int, e_str, e_ty, e_var, getV_some, e_glo, e_tup, e_lst, e_bin, e_neg, negV_int, e_not, e_and, e_or, andV_bl, orV_bl, and_pure, or_pure, e_cmp, e_chain, e_ite, e_idx, e_sli, e_gcd, gcdV_int, e_call, callR_ret, e_bi, e_comp, l_nil, l_cons, s_nil, s_cons, then_nx, then_rt, turn_eq, ife_t, ife_f, ifeG_eq, c_asg, c_ret, c_retO, c_exp, c_ife, c_for, c_asgO, c_app, c_sset, g0, gS, st0, stS, thaw_tup, thaw_lst, thaw_own, thaw_int, thaw_bl, thaw_str, thaw_non, thaw_stm, own_tup, own_lst, own_own, own_int, own_bl, own_str, own_non, own_ty, own_stm, tru_bl, tru_int, seq_tup, seq_lst, seq_own, lst_lst, lst_own, add_int, sub_int, eq_int, ne_int, lt_int', le_int', gt_int', ge_int', ne_bl, eq_bl, idx_tup, idx_lst, idx_own, len_1, all_1, any_1, sum_1, tuple_1, list_1, sorted_1, int_1, abs_1, type_1, bind_nm, bind_tp, bind_tpl, min1_1, max1_1, mind_1, min2_1, max2_1, it_enum, enumB_lst, c_par, it_seq, it_rng1, it_rng2, rngA_int, rngB_int, it_zip, zip_tup, zip_lst, par_none, par_some, parB_int, sli_tup, sli_lst, step_none, step_some, wipe_nil, wipe_cons, List.map_cons, List.map_nil, List.length_cons, len_nil, List.all_cons, List.all_nil, List.replicate, List.cons_append, List.nil_append, List.append_nil, List.zip_cons_cons, List.zip_nil_right, List.foldl_cons, List.foldl_nil, eq_self, Option.bind_some, Option.map_some, Bool.not_false, Bool.not_true, Bool.true_and, Bool.and_true, Bool.false_and, Bool.and_false, Bool.or_true, Bool.true_or, Bool.or_false, Bool.false_or, if_true, Bool.false_eq_true, if_false, Nat.sub_self, Nat.reduceAdd, Nat.reduceSub, Nat.reduceEqDiff, ite_true, ite_false, Nat.reduceLeDiff, idx_s0, idx_s1, idx_s2, decide_eq_false hc, m1, m2, sset_1, sset_2]
    exact ⟨_, _, rfl, (d1 _).1, (d1 _).2, _, _, _, rfl, hk⟩
def PickOk (φ : Fn) : Prop := ∀ S xs, SOk S → PV.pls xs = true → xs ≠ [] → xs.length ≤ 1000000 → ∃ x S', φ [.stm, .lst xs] S = some (.ret x, S') ∧ x ∈ xs ∧ SOk S'
theorem pick_ok {T : Tbl} (H : ∃ φ, T.fn "_law_next" = some (2, φ) ∧ NextOk φ) : PickOk (evF T 2 P.c__law_pick) := by
  intro S xs hS hp hne hl
  obtain ⟨φ, e, h⟩ := H
  have hpos : 0 < xs.length := List.length_pos_iff.mpr hne
  obtain ⟨d, S', h1, h2, h3, h4⟩ := h S xs.length hS (by omega) (by omega)
  obtain ⟨x, hx⟩ : ∃ x, xs[d.toNat]? = some x := ⟨_, List.getElem?_eq_getElem (by omega)⟩
  have ha : atI xs d = some x := by
    unfold atI ixN
    rw [if_pos h2, if_pos h3]
    exact hx
  have hm := List.mem_of_getElem? hx
  have ho := pl_own (pls_all hp x hm)
  refine ⟨x, S', ?_, hm, h4⟩
  unfold P.c__law_pick
  simp only [evF_end, end_nx, end_rt, FU, e_non, e_bl, e_int, e_str, e_ty, e_var, getV_some, e_glo, e_tup, e_lst, e_bin, e_neg, negV_int, e_not, e_and, e_or, andV_bl, orV_bl, and_pure, or_pure, e_cmp, e_chain, e_ite, e_idx, e_sli, e_gcd, gcdV_int, e_call, callR_ret, e_bi, e_comp, l_nil, l_cons, s_nil, s_cons, then_nx, then_rt, turn_eq, ife_t, ife_f, ifeG_eq, c_asg, c_ret, c_retO, c_exp, c_ife, c_for, c_asgO, c_app, c_sset, g0, gS, st0, stS, thaw_tup, thaw_lst, thaw_own, thaw_int, thaw_bl, thaw_str, thaw_non, thaw_stm, own_tup, own_lst, own_own, own_int, own_bl, own_str, own_non, own_ty, own_stm, tru_bl, tru_int, seq_tup, seq_lst, seq_own, lst_lst, lst_own, add_int, sub_int, eq_int, ne_int, lt_int', le_int', gt_int', ge_int', ne_bl, eq_bl, idx_tup, idx_lst, idx_own, len_1, all_1, any_1, sum_1, tuple_1, list_1, sorted_1, int_1, abs_1, type_1, bind_nm, bind_tp, bind_tpl, min1_1, max1_1, mind_1, min2_1, max2_1, it_enum, enumB_lst, c_par, it_seq, it_rng1, it_rng2, rngA_int, rngB_int, it_zip, zip_tup, zip_lst, par_none, par_some, parB_int, sli_tup, sli_lst, step_none, step_some, wipe_nil, wipe_cons, List.map_cons, List.map_nil, List.length_cons, len_nil, List.all_cons, List.all_nil, List.replicate, List.cons_append, List.nil_append, List.append_nil, List.zip_cons_cons, List.zip_nil_right, List.foldl_cons, List.foldl_nil, eq_self, Option.bind_some, Option.map_some, Bool.not_false, Bool.not_true, Bool.true_and, Bool.and_true, Bool.false_and, Bool.and_false, Bool.or_true, Bool.true_or, Bool.or_false, Bool.false_or, if_true, Bool.false_eq_true, if_false, Nat.sub_self, Nat.reduceAdd, Nat.reduceSub, Nat.reduceEqDiff, ite_true, ite_false, Nat.reduceLeDiff, e, h1, callR_flat (x := .int d) rfl (show (S.isSome || S'.isNone) = true by rw [hS.some]; rfl), ha, ho]
end Ws

/-! Ws24: loops; the links that are drawn. -/
namespace Ws
open PySem PySem.Spec L2

theorem forL_inv {step : PV → Env → Strm → Option (Fl × Strm)} (I : Nat → Env → Strm → Prop) : ∀ {xs : List PV} {n : Nat}, (∀ (i : Nat) (x : PV) (env : Env) (S : Strm), xs[i]? = some x → I (n + i) env S → ∃ env' S', step x env S = some (.nx env', S') ∧ I (n + i + 1) env' S') →
    ∀ {env : Env} {S : Strm}, I n env S → ∃ env' S', forL step xs env S = some (.nx env', S') ∧ I (n + xs.length) env' S'
  | [], n, _, env, S, h0 => ⟨env, S, rfl, h0⟩
  | x :: xs, n, h, env, S, h0 => by
    obtain ⟨e1, S1, h1, h2⟩ := h 0 x env S rfl h0
    obtain ⟨e2, S2, h3, h4⟩ := forL_inv I (xs := xs) (n := n + 1) (fun i y env S hy hi => by
      have := h (i + 1) y env S hy (by rw [show n + (i + 1) = n + 1 + i by omega]; exact hi)
      rw [show n + 1 + i + 1 = n + (i + 1) + 1 by omega]
      exact this) h2
    refine ⟨e2, S2, ?_, by rw [List.length_cons, show n + (xs.length + 1) = n + 1 + xs.length by omega]; exact h4⟩
    rw [forL, h1, Option.bind_some]
    exact h3
theorem rangeV_get {a b : Int} {i : Nat} {x : PV} (h : (rangeV a b)[i]? = some x) : x = .int (a + i) ∧ a + i < b := by
  unfold rangeV at h
  rw [List.getElem?_map] at h
  by_cases hi : i < (b - a).toNat
  · rw [List.getElem?_range hi] at h
    simp only [Option.map_some, Option.some.injEq] at h
    exact ⟨h.symm, by omega⟩
  · rw [List.getElem?_eq_none (by rw [List.length_range]; omega)] at h
    cases h
theorem rangeV_len {a b : Int} : (rangeV a b).length = (b - a).toNat := by unfold rangeV; rw [List.length_map, List.length_range]
theorem inR_small {i : Int} (h : -1000000 ≤ i) (h' : i ≤ 1000000) : inR i = true := by unfold inR; rw [decide_eq_true (by omega), decide_eq_true (by omega)]; rfl
theorem ascP_snoc : ∀ {ls : List Lk} {x : Lk}, ascP ls = true → (∀ r ∈ ls, r.1 < x.1 ∨ (r.1 = x.1 ∧ r.2.1 < x.2.1)) → ascP (ls ++ [x]) = true
  | [], x, _, _ => rfl
  | [y], x, _, h => by
    show (_ && true) = true
    rw [Bool.and_true]
    have := h y (by simp)
    simpa using this
  | y :: z :: r, x, h, hx => by
    simp only [ascP, Bool.and_eq_true] at h
    show (_ && ascP (z :: (r ++ [x]))) = true
    rw [Bool.and_eq_true]
    exact ⟨h.1, ascP_snoc (ls := z :: r) h.2 fun q hq => hx q (List.mem_cons_of_mem _ hq)⟩
theorem own5 {a b c d e : Option PV} {l : List PV} {r : Env} : ownAt (a :: b :: c :: d :: e :: some (.own l) :: r) 5 = some l := rfl
theorem asgO_ok {l : List PV} {i : Nat} {env : Env} {S S' : Strm} (h : i < env.length) (h' : (S.isSome || S'.isNone) = true) : asgOV i env S (.lst l, S') = some (.nx (env.set i (some (.own l))), S') := by
  unfold asgOV; dsimp only; rw [h', decide_eq_true h]; rfl
theorem lim3 : decide (3 ≤ LIM) = true := by decide
theorem lim0 : decide (0 ≤ LIM) = true := by decide
theorem isO {S S' : Strm} (h : SOk S) : (S.isSome || S'.isNone) = true := by rw [h.some]; rfl
/-- good links of points below p -/
structure GoodLs (p m : Int) (most : Int) (ls : List Lk) : Prop where
  len : (ls.length : Int) ≤ most
  good : ∀ r ∈ ls, goodLk p m r = true
  asc : ascP ls = true
theorem draw_turn {T : Tbl} {B : List CS} {p o : Int} {s1 s2 s3 s4 s5 s6 s7 : Option PV} {S S' : Strm} {env' : Env} (h1 : inR p = true) (h2 : inR (o + 1) = true) (h : forL (bodyF T 58 (.nm 7) B) (rangeV (o + 1) p) [s1, some (.int p), s2, s3, s4, s5, some (.int o), s7] S = some (.nx env', S')) :
    bodyF T 59 (.nm 6) [.for_ (.nm 7) (.rng2 (.bin .add (.var 6) (.int 1)) (.var 1)) B] (.int o) [s1, some (.int p), s2, s3, s4, s5, s6, s7] S = some (.nx env', S') := by
  simp only [evF_end, end_nx, end_rt, FU, e_non, e_bl, e_int, e_str, e_ty, e_var, getV_some, e_glo, e_tup, e_lst, e_bin, e_neg, negV_int, e_not, e_and, e_or, andV_bl, orV_bl, and_pure, or_pure, e_cmp, e_chain, e_ite, e_idx, e_sli, e_gcd, gcdV_int, e_call, callR_ret, e_bi, e_comp, l_nil, l_cons, s_nil, s_cons, then_nx, then_rt, turn_eq, ife_t, ife_f, ifeG_eq, c_asg, c_ret, c_retO, c_exp, c_ife, c_for, c_asgO, c_app, c_sset, g0, gS, st0, stS, thaw_tup, thaw_lst, thaw_own, thaw_int, thaw_bl, thaw_str, thaw_non, thaw_stm, own_tup, own_lst, own_own, own_int, own_bl, own_str, own_non, own_ty, own_stm, tru_bl, tru_int, seq_tup, seq_lst, seq_own, lst_lst, lst_own, add_int, sub_int, eq_int, ne_int, lt_int', le_int', gt_int', ge_int', ne_bl, eq_bl, idx_tup, idx_lst, idx_own, len_1, all_1, any_1, sum_1, tuple_1, list_1, sorted_1, int_1, abs_1, type_1, bind_nm, bind_tp, bind_tpl, min1_1, max1_1, mind_1, min2_1, max2_1, it_enum, enumB_lst, c_par, it_seq, it_rng1, it_rng2, rngA_int, rngB_int, it_zip, zip_tup, zip_lst, par_none, par_some, parB_int, sli_tup, sli_lst, step_none, step_some, wipe_nil, wipe_cons, List.map_cons, List.map_nil, List.length_cons, len_nil, List.all_cons, List.all_nil, List.replicate, List.cons_append, List.nil_append, List.append_nil, List.zip_cons_cons, List.zip_nil_right, List.foldl_cons, List.foldl_nil, eq_self, Option.bind_some, Option.map_some, Bool.not_false, Bool.not_true, Bool.true_and, Bool.and_true, Bool.false_and, Bool.and_false, Bool.or_true, Bool.true_or, Bool.or_false, Bool.false_or, if_true, Bool.false_eq_true, if_false, Nat.sub_self, Nat.reduceAdd, Nat.reduceSub, Nat.reduceEqDiff, ite_true, ite_false, Nat.reduceLeDiff, body_eq, h1, h2, h]
def DrawOk (φ : Fn) : Prop := ∀ S p share most great, SOk S → 0 ≤ p → p ≤ 1000 → 0 < share → share < 1073741824 → 0 ≤ most → most ≤ 1000 → 0 < great → great < 1073741824 →
  ∃ ls S', φ [.stm, .int p, .int share, .int most, .int great] S = some (.ret (.tup (ls.map lk)), S') ∧ GoodLs p great most ls ∧ SOk S'
theorem draw_ok {T : Tbl} (H : ∃ φ, T.fn "_law_next" = some (2, φ) ∧ NextOk φ) : DrawOk (evF T 8 P.c__law_links) := by
  intro S p share most great hS p0 p1 s0 s1 m0 m1 g0' g1
  obtain ⟨φ, e, h⟩ := H
  let env0 : List Lk → Option PV → Option PV → Env := fun ls a b => [some .stm, some (.int p), some (.int share), some (.int most), some (.int great), some (.own (ls.map lk)), a, b]
  have inner : ∀ (o : Int), 0 ≤ o → o < p → ∀ (env : Env) (S : Strm), (∃ ls a b, env = env0 ls a b ∧ GoodLs p great most ls ∧ (∀ r ∈ ls, r.1 < o) ∧ SOk S ∧ a = some (.int o)) →
      ∃ env' S', forL (bodyF T 58 (.nm 7)
        [.ife (.and (.cmp .lt (.bi .len [(.var 5)]) (.var 3)) (.cmp .eq (.call "_law_next" [(.var 0), (.var 2)]) (.int 0))) [.app 5 (.tup [(.var 6), (.var 7), (.bin .add (.int 1) (.call "_law_next" [(.var 0), (.var 4)]))])] []]) (rangeV (o + 1) p) env S = some (.nx env', S') ∧
        ∃ ls a b, env' = env0 ls a b ∧ GoodLs p great most ls ∧ (∀ r ∈ ls, r.1 < o + 1) ∧ SOk S' := by
    intro o ho0 ho1 env S ⟨ls, a, b, he, hg, hlt, hS, ha⟩
    refine Exists.elim (forL_inv (step := bodyF T 58 (.nm 7)
        [.ife (.and (.cmp .lt (.bi .len [(.var 5)]) (.var 3)) (.cmp .eq (.call "_law_next" [(.var 0), (.var 2)]) (.int 0))) [.app 5 (.tup [(.var 6), (.var 7), (.bin .add (.int 1) (.call "_law_next" [(.var 0), (.var 4)]))])] []])
      (I := fun i env S => ∃ ls b, env = env0 ls (some (.int o)) b ∧ GoodLs p great most ls ∧ (∀ r ∈ ls, r.1 < o ∨ (r.1 = o ∧ r.2.1 < o + 1 + i)) ∧ SOk S) (xs := rangeV (o + 1) p) (n := 0) ?_ (env := env) (S := S) ⟨ls, b, by rw [he, ha], hg, fun r hr => .inl (hlt r hr), hS⟩) (fun env' z => Exists.elim z fun S' z => ?_)
    rotate_left
    · obtain ⟨h1, ls', b', e1, e2, e3, e4⟩ := z
      exact ⟨env', S', h1, ls', _, b', e1, e2, fun r hr => by rcases e3 r hr with z | z <;> omega, e4⟩
    · rintro i x env S hx ⟨ls, b, rfl, hg, hlt, hS⟩
      obtain ⟨rfl, hj⟩ := rangeV_get hx
      rw [Nat.zero_add] at hlt
      have hSs : ∀ S2 : Strm, (S.isSome || S2.isNone) = true := fun S2 => isO hS
      by_cases hl : ((ls.map lk).length : Int) < most
      · obtain ⟨d1, S1, n1, n2, n3, n4⟩ := h S share hS s0 s1
        have hS1 : ∀ S2 : Strm, (S1.isSome || S2.isNone) = true := fun S2 => isO n4
        by_cases hd : d1 = 0
        · obtain ⟨d2, S2, k1, k2, k3, k4⟩ := h S1 great n4 g0' g1
          have hLIM : (ls.map lk).length < LIM := by unfold LIM; omega
          refine ⟨_, S2, ?_, ls ++ [(o, o + 1 + i, 1 + d2)], some (.int (o + 1 + i)), rfl, ⟨?_, ?_, ?_⟩, ?_, k4⟩
          · dsimp only [env0]
            subst hd
            simp only [evF_end, end_nx, end_rt, FU, e_non, e_bl, e_int, e_str, e_ty, e_var, getV_some, e_glo, e_tup, e_lst, e_bin, e_neg, negV_int, e_not, e_and, e_or, andV_bl, orV_bl, and_pure, or_pure, e_cmp, e_chain, e_ite, e_idx, e_sli, e_gcd, gcdV_int, e_call, callR_ret, e_bi, e_comp, l_nil, l_cons, s_nil, s_cons, then_nx, then_rt, turn_eq, ife_t, ife_f, ifeG_eq, c_asg, c_ret, c_retO, c_exp, c_ife, c_for, c_asgO, c_app, c_sset, g0, gS, st0, stS, thaw_tup, thaw_lst, thaw_own, thaw_int, thaw_bl, thaw_str, thaw_non, thaw_stm, own_tup, own_lst, own_own, own_int, own_bl, own_str, own_non, own_ty, own_stm, tru_bl, tru_int, seq_tup, seq_lst, seq_own, lst_lst, lst_own, add_int, sub_int, eq_int, ne_int, lt_int', le_int', gt_int', ge_int', ne_bl, eq_bl, idx_tup, idx_lst, idx_own, len_1, all_1, any_1, sum_1, tuple_1, list_1, sorted_1, int_1, abs_1, type_1, bind_nm, bind_tp, bind_tpl, min1_1, max1_1, mind_1, min2_1, max2_1, it_enum, enumB_lst, c_par, it_seq, it_rng1, it_rng2, rngA_int, rngB_int, it_zip, zip_tup, zip_lst, par_none, par_some, parB_int, sli_tup, sli_lst, step_none, step_some, wipe_nil, wipe_cons, List.map_cons, List.map_nil, List.length_cons, len_nil, List.all_cons, List.all_nil, List.replicate, List.cons_append, List.nil_append, List.append_nil, List.zip_cons_cons, List.zip_nil_right, List.foldl_cons, List.foldl_nil, eq_self, Option.bind_some, Option.map_some, Bool.not_false, Bool.not_true, Bool.true_and, Bool.and_true, Bool.false_and, Bool.and_false, Bool.or_true, Bool.true_or, Bool.or_false, Bool.false_or, if_true, Bool.false_eq_true, if_false, Nat.sub_self, Nat.reduceAdd, Nat.reduceSub, Nat.reduceEqDiff, ite_true, ite_false, Nat.reduceLeDiff, body_eq, decide_eq_true hl, e, n1, callR_flat (x := .int 0) rfl (hSs S1), k1, callR_flat (x := .int d2) rfl (hS1 S2), own5, decide_true, decide_eq_true hLIM, lim3, List.map_append, lk]
          · rw [List.length_append]; rw [List.length_map] at hl; simp; omega
          · intro r hr
            rcases List.mem_append.mp hr with hr | hr
            · exact hg.good r hr
            · simp at hr
              subst hr
              unfold goodLk
              dsimp only
              rw [decide_eq_true (by omega), decide_eq_true (by omega), decide_eq_true (by omega), decide_eq_true (by omega), decide_eq_true (by omega), decide_eq_true (by omega)]; rfl
          · exact ascP_snoc hg.asc fun r hr => hlt r hr
          · intro r hr
            rcases List.mem_append.mp hr with hr | hr
            · rcases hlt r hr with z | z
              · exact .inl z
              · exact .inr ⟨z.1, by omega⟩
            · simp at hr
              subst hr
              exact .inr ⟨rfl, by dsimp only; omega⟩
        · refine ⟨_, S1, ?_, ls, some (.int (o + 1 + i)), rfl, hg, fun r hr => ?_, n4⟩
          · dsimp only [env0]
            simp only [evF_end, end_nx, end_rt, FU, e_non, e_bl, e_int, e_str, e_ty, e_var, getV_some, e_glo, e_tup, e_lst, e_bin, e_neg, negV_int, e_not, e_and, e_or, andV_bl, orV_bl, and_pure, or_pure, e_cmp, e_chain, e_ite, e_idx, e_sli, e_gcd, gcdV_int, e_call, callR_ret, e_bi, e_comp, l_nil, l_cons, s_nil, s_cons, then_nx, then_rt, turn_eq, ife_t, ife_f, ifeG_eq, c_asg, c_ret, c_retO, c_exp, c_ife, c_for, c_asgO, c_app, c_sset, g0, gS, st0, stS, thaw_tup, thaw_lst, thaw_own, thaw_int, thaw_bl, thaw_str, thaw_non, thaw_stm, own_tup, own_lst, own_own, own_int, own_bl, own_str, own_non, own_ty, own_stm, tru_bl, tru_int, seq_tup, seq_lst, seq_own, lst_lst, lst_own, add_int, sub_int, eq_int, ne_int, lt_int', le_int', gt_int', ge_int', ne_bl, eq_bl, idx_tup, idx_lst, idx_own, len_1, all_1, any_1, sum_1, tuple_1, list_1, sorted_1, int_1, abs_1, type_1, bind_nm, bind_tp, bind_tpl, min1_1, max1_1, mind_1, min2_1, max2_1, it_enum, enumB_lst, c_par, it_seq, it_rng1, it_rng2, rngA_int, rngB_int, it_zip, zip_tup, zip_lst, par_none, par_some, parB_int, sli_tup, sli_lst, step_none, step_some, wipe_nil, wipe_cons, List.map_cons, List.map_nil, List.length_cons, len_nil, List.all_cons, List.all_nil, List.replicate, List.cons_append, List.nil_append, List.append_nil, List.zip_cons_cons, List.zip_nil_right, List.foldl_cons, List.foldl_nil, eq_self, Option.bind_some, Option.map_some, Bool.not_false, Bool.not_true, Bool.true_and, Bool.and_true, Bool.false_and, Bool.and_false, Bool.or_true, Bool.true_or, Bool.or_false, Bool.false_or, if_true, Bool.false_eq_true, if_false, Nat.sub_self, Nat.reduceAdd, Nat.reduceSub, Nat.reduceEqDiff, ite_true, ite_false, Nat.reduceLeDiff, body_eq, decide_eq_true hl, e, n1, callR_flat (x := .int d1) rfl (hSs S1), decide_eq_false hd]
          · rcases hlt r hr with z | z
            · exact .inl z
            · exact .inr ⟨z.1, by omega⟩
      · refine ⟨_, S, ?_, ls, some (.int (o + 1 + i)), rfl, hg, fun r hr => ?_, hS⟩
        · dsimp only [env0]
          simp only [evF_end, end_nx, end_rt, FU, e_non, e_bl, e_int, e_str, e_ty, e_var, getV_some, e_glo, e_tup, e_lst, e_bin, e_neg, negV_int, e_not, e_and, e_or, andV_bl, orV_bl, and_pure, or_pure, e_cmp, e_chain, e_ite, e_idx, e_sli, e_gcd, gcdV_int, e_call, callR_ret, e_bi, e_comp, l_nil, l_cons, s_nil, s_cons, then_nx, then_rt, turn_eq, ife_t, ife_f, ifeG_eq, c_asg, c_ret, c_retO, c_exp, c_ife, c_for, c_asgO, c_app, c_sset, g0, gS, st0, stS, thaw_tup, thaw_lst, thaw_own, thaw_int, thaw_bl, thaw_str, thaw_non, thaw_stm, own_tup, own_lst, own_own, own_int, own_bl, own_str, own_non, own_ty, own_stm, tru_bl, tru_int, seq_tup, seq_lst, seq_own, lst_lst, lst_own, add_int, sub_int, eq_int, ne_int, lt_int', le_int', gt_int', ge_int', ne_bl, eq_bl, idx_tup, idx_lst, idx_own, len_1, all_1, any_1, sum_1, tuple_1, list_1, sorted_1, int_1, abs_1, type_1, bind_nm, bind_tp, bind_tpl, min1_1, max1_1, mind_1, min2_1, max2_1, it_enum, enumB_lst, c_par, it_seq, it_rng1, it_rng2, rngA_int, rngB_int, it_zip, zip_tup, zip_lst, par_none, par_some, parB_int, sli_tup, sli_lst, step_none, step_some, wipe_nil, wipe_cons, List.map_cons, List.map_nil, List.length_cons, len_nil, List.all_cons, List.all_nil, List.replicate, List.cons_append, List.nil_append, List.append_nil, List.zip_cons_cons, List.zip_nil_right, List.foldl_cons, List.foldl_nil, eq_self, Option.bind_some, Option.map_some, Bool.not_false, Bool.not_true, Bool.true_and, Bool.and_true, Bool.false_and, Bool.and_false, Bool.or_true, Bool.true_or, Bool.or_false, Bool.false_or, if_true, Bool.false_eq_true, if_false, Nat.sub_self, Nat.reduceAdd, Nat.reduceSub, Nat.reduceEqDiff, ite_true, ite_false, Nat.reduceLeDiff, body_eq, decide_eq_false hl]
        · rcases hlt r hr with z | z
          · exact .inl z
          · exact .inr ⟨z.1, by omega⟩
  unfold P.c__law_links
  refine Exists.elim (forL_inv (step := bodyF T 59 (.nm 6)
        [.for_ (.nm 7) (.rng2 (.bin .add (.var 6) (.int 1)) (.var 1)) [.ife (.and (.cmp .lt (.bi .len [(.var 5)]) (.var 3)) (.cmp .eq (.call "_law_next" [(.var 0), (.var 2)]) (.int 0))) [.app 5 (.tup [(.var 6), (.var 7), (.bin .add (.int 1) (.call "_law_next" [(.var 0), (.var 4)]))])] []]])
    (I := fun i env S => ∃ ls a b, env = env0 ls a b ∧ GoodLs p great most ls ∧ (∀ r ∈ ls, r.1 < (i : Int)) ∧ SOk S) (xs := rangeV 0 p) (n := 0) ?_ (env := env0 [] none none) (S := S) ⟨[], none, none, rfl, ⟨by simpa using m0, fun r hr => by simp at hr, rfl⟩, fun r hr => by simp at hr, hS⟩) (fun env' z => Exists.elim z fun S' z => ?_)
  rotate_left
  · obtain ⟨h1, ls, a, b, rfl, k1, k2, k3⟩ := z
    refine ⟨ls, S', ?_, k1, k3⟩
    dsimp only [env0] at h1
    rw [show (List.map lk [] : List PV) = [] from rfl] at h1
    simp only [evF_end, end_nx, end_rt, FU, e_non, e_bl, e_int, e_str, e_ty, e_var, getV_some, e_glo, e_tup, e_lst, e_bin, e_neg, negV_int, e_not, e_and, e_or, andV_bl, orV_bl, and_pure, or_pure, e_cmp, e_chain, e_ite, e_idx, e_sli, e_gcd, gcdV_int, e_call, callR_ret, e_bi, e_comp, l_nil, l_cons, s_nil, s_cons, then_nx, then_rt, turn_eq, ife_t, ife_f, ifeG_eq, c_asg, c_ret, c_retO, c_exp, c_ife, c_for, c_asgO, c_app, c_sset, g0, gS, st0, stS, thaw_tup, thaw_lst, thaw_own, thaw_int, thaw_bl, thaw_str, thaw_non, thaw_stm, own_tup, own_lst, own_own, own_int, own_bl, own_str, own_non, own_ty, own_stm, tru_bl, tru_int, seq_tup, seq_lst, seq_own, lst_lst, lst_own, add_int, sub_int, eq_int, ne_int, lt_int', le_int', gt_int', ge_int', ne_bl, eq_bl, idx_tup, idx_lst, idx_own, len_1, all_1, any_1, sum_1, tuple_1, list_1, sorted_1, int_1, abs_1, type_1, bind_nm, bind_tp, bind_tpl, min1_1, max1_1, mind_1, min2_1, max2_1, it_enum, enumB_lst, c_par, it_seq, it_rng1, it_rng2, rngA_int, rngB_int, it_zip, zip_tup, zip_lst, par_none, par_some, parB_int, sli_tup, sli_lst, step_none, step_some, wipe_nil, wipe_cons, List.map_cons, List.map_nil, List.length_cons, len_nil, List.all_cons, List.all_nil, List.replicate, List.cons_append, List.nil_append, List.append_nil, List.zip_cons_cons, List.zip_nil_right, List.foldl_cons, List.foldl_nil, eq_self, Option.bind_some, Option.map_some, Bool.not_false, Bool.not_true, Bool.true_and, Bool.and_true, Bool.false_and, Bool.and_false, Bool.or_true, Bool.true_or, Bool.or_false, Bool.false_or, if_true, Bool.false_eq_true, if_false, Nat.sub_self, Nat.reduceAdd, Nat.reduceSub, Nat.reduceEqDiff, ite_true, ite_false, Nat.reduceLeDiff, show isFresh (.lst []) = true from rfl, asgO_ok (show (5 : Nat) < [some PV.stm, some (PV.int p), some (PV.int share), some (PV.int most), some (PV.int great), none, none, none].length from by show 5 < 8; decide) (isO hS), lim0, inR_small (i := p) (by omega) (by omega), h1]
  · rintro i x env S hx ⟨ls, a, b, rfl, hg, hlt, hS⟩
    obtain ⟨rfl, hj⟩ := rangeV_get hx
    rw [Nat.zero_add] at hlt
    rw [Int.zero_add] at hj ⊢
    obtain ⟨env', S', f1, ls', a', b', f2, f3, f4, f5⟩ := inner i (by omega) hj (env0 ls (some (.int i)) b) S ⟨ls, _, b, rfl, hg, hlt, hS, rfl⟩
    refine ⟨env', S', ?_, ls', a', b', f2, f3, fun r hr => by have := f4 r hr; omega, f5⟩
    exact draw_turn (inR_small (by omega) (by omega)) (inR_small (by omega) (by omega)) f1
end Ws

/-! Ws25: all fences, in order. -/
namespace Ws
open PySem PySem.Spec L2
/-- the fences of a net of p points, in order -/
def fences : Int → List (List Int)
  | 2 => [[1]]
  | 3 => [[1], [1, 2], [2]]
  | 4 => [[1], [1, 2], [1, 2, 3], [1, 3], [2], [2, 3], [3]]
  | 5 => [[1], [1, 2], [1, 2, 3], [1, 2, 3, 4], [1, 2, 4], [1, 3], [1, 3, 4], [1, 4], [2], [2, 3], [2, 3, 4], [2, 4], [3], [3, 4], [4]]
  | 6 => [[1], [1, 2], [1, 2, 3], [1, 2, 3, 4], [1, 2, 3, 4, 5], [1, 2, 3, 5], [1, 2, 4], [1, 2, 4, 5], [1, 2, 5], [1, 3], [1, 3, 4], [1, 3, 4, 5], [1, 3, 5], [1, 4], [1, 4, 5], [1, 5], [2], [2, 3], [2, 3, 4], [2, 3, 4, 5], [2, 3, 5], [2, 4], [2, 4, 5], [2, 5], [3], [3, 4], [3, 4, 5], [3, 5], [4], [4, 5], [5]]
  | 7 => [[1], [1, 2], [1, 2, 3], [1, 2, 3, 4], [1, 2, 3, 4, 5], [1, 2, 3, 4, 5, 6], [1, 2, 3, 4, 6], [1, 2, 3, 5], [1, 2, 3, 5, 6], [1, 2, 3, 6], [1, 2, 4], [1, 2, 4, 5], [1, 2, 4, 5, 6], [1, 2, 4, 6], [1, 2, 5], [1, 2, 5, 6], [1, 2, 6], [1, 3], [1, 3, 4], [1, 3, 4, 5], [1, 3, 4, 5, 6], [1, 3, 4, 6], [1, 3, 5], [1, 3, 5, 6], [1, 3, 6], [1, 4], [1, 4, 5], [1, 4, 5, 6], [1, 4, 6], [1, 5], [1, 5, 6], [1, 6], [2], [2, 3], [2, 3, 4], [2, 3, 4, 5], [2, 3, 4, 5, 6], [2, 3, 4, 6], [2, 3, 5], [2, 3, 5, 6], [2, 3, 6], [2, 4], [2, 4, 5], [2, 4, 5, 6], [2, 4, 6], [2, 5], [2, 5, 6], [2, 6], [3], [3, 4], [3, 4, 5], [3, 4, 5, 6], [3, 4, 6], [3, 5], [3, 5, 6], [3, 6], [4], [4, 5], [4, 5, 6], [4, 6], [5], [5, 6], [6]]
  | _ => []
theorem lf2 {T : Tbl} {S : Strm} : evF T 4 P.c__law_fences [.int 2] S = some (.ret (.lst ((fences 2).map ptsV)), S) := by kernel_rfl
theorem lf3 {T : Tbl} {S : Strm} : evF T 4 P.c__law_fences [.int 3] S = some (.ret (.lst ((fences 3).map ptsV)), S) := by kernel_rfl
theorem lf4 {T : Tbl} {S : Strm} : evF T 4 P.c__law_fences [.int 4] S = some (.ret (.lst ((fences 4).map ptsV)), S) := by kernel_rfl
theorem lf5 {T : Tbl} {S : Strm} : evF T 4 P.c__law_fences [.int 5] S = some (.ret (.lst ((fences 5).map ptsV)), S) := by kernel_rfl
theorem lf6 {T : Tbl} {S : Strm} : evF T 4 P.c__law_fences [.int 6] S = some (.ret (.lst ((fences 6).map ptsV)), S) := by kernel_rfl
theorem lf7 {T : Tbl} {S : Strm} : evF T 4 P.c__law_fences [.int 7] S = some (.ret (.lst ((fences 7).map ptsV)), S) := by kernel_rfl
end Ws

/-! Ws26: sets of points: filters, sorting, the empty one. -/
namespace Ws
open PySem PySem.Spec L2

theorem compL_filter {step : PV → Strm → Option (Option PV × Strm)} {S : Strm} {p : Int → Bool} {A : List Int} (h : ∀ x ∈ A, step (.int x) S = some (if p x then some (.int x) else none, S)) : compL step (A.map .int) S = some ((A.filter p).map .int, S) := by
  have w := compL_map (f := PV.int) (g := fun x => if p x then some (PV.int x) else none) h
  rw [w, filterMap_if p PV.int]
theorem comp_in {T : Tbl} {m n i k : Nat} {env : Env} {S : Strm} {A B : List Int} (hm : m = n + 2) (hi : i < env.length) (hk : i ≠ k) (h : env[k]? = some (some (.tup (B.map .int)))) :
    compL (stepV (fun e env S => evE T m e env S) (.var i) (.nm i) (some (.cmp .mem (.var i) (.var k))) env) (A.map .int) S = some ((A.filter fun x => decide (x ∈ B)).map .int, S) := by
  subst hm
  refine compL_filter fun x _ => ?_
  have h1 : (env.set i (some (PV.int x)))[k]? = some (some (.tup (B.map .int))) := by rw [List.getElem?_set_ne hk]; exact h
  have h2 : (env.set i (some (PV.int x)))[i]? = some (some (.int x)) := List.getElem?_set_self hi
  simp only [evF_end, end_nx, end_rt, FU, e_non, e_bl, e_int, e_str, e_ty, e_var, getV_some, e_glo, e_tup, e_lst, e_bin, e_neg, negV_int, e_not, e_and, e_or, andV_bl, orV_bl, and_pure, or_pure, e_cmp, e_chain, e_ite, e_idx, e_sli, e_gcd, gcdV_int, e_call, callR_ret, e_bi, e_comp, l_nil, l_cons, s_nil, s_cons, then_nx, then_rt, turn_eq, ife_t, ife_f, ifeG_eq, c_asg, c_ret, c_retO, c_exp, c_ife, c_for, c_asgO, c_app, c_sset, g0, gS, st0, stS, thaw_tup, thaw_lst, thaw_own, thaw_int, thaw_bl, thaw_str, thaw_non, thaw_stm, own_tup, own_lst, own_own, own_int, own_bl, own_str, own_non, own_ty, own_stm, tru_bl, tru_int, seq_tup, seq_lst, seq_own, lst_lst, lst_own, add_int, sub_int, eq_int, ne_int, lt_int', le_int', gt_int', ge_int', ne_bl, eq_bl, idx_tup, idx_lst, idx_own, len_1, all_1, any_1, sum_1, tuple_1, list_1, sorted_1, int_1, abs_1, type_1, bind_nm, bind_tp, bind_tpl, min1_1, max1_1, mind_1, min2_1, max2_1, it_enum, enumB_lst, c_par, it_seq, it_rng1, it_rng2, rngA_int, rngB_int, it_zip, zip_tup, zip_lst, par_none, par_some, parB_int, sli_tup, sli_lst, step_none, step_some, wipe_nil, wipe_cons, List.map_cons, List.map_nil, List.length_cons, len_nil, List.all_cons, List.all_nil, List.replicate, List.cons_append, List.nil_append, List.append_nil, List.zip_cons_cons, List.zip_nil_right, List.foldl_cons, List.foldl_nil, eq_self, Option.bind_some, Option.map_some, Bool.not_false, Bool.not_true, Bool.true_and, Bool.and_true, Bool.false_and, Bool.and_false, Bool.or_true, Bool.true_or, Bool.or_false, Bool.false_or, if_true, Bool.false_eq_true, if_false, Nat.sub_self, Nat.reduceAdd, Nat.reduceSub, Nat.reduceEqDiff, ite_true, ite_false, Nat.reduceLeDiff, h1, h2, mem_tup]
  cases decide (x ∈ B) <;> rfl
theorem comp_nin {T : Tbl} {m n i k : Nat} {env : Env} {S : Strm} {A B : List Int} (hm : m = n + 2) (hi : i < env.length) (hk : i ≠ k) (h : env[k]? = some (some (.tup (B.map .int)))) :
    compL (stepV (fun e env S => evE T m e env S) (.var i) (.nm i) (some (.cmp .nmem (.var i) (.var k))) env) (A.map .int) S = some ((A.filter fun x => !decide (x ∈ B)).map .int, S) := by
  subst hm
  refine compL_filter fun x _ => ?_
  have h1 : (env.set i (some (PV.int x)))[k]? = some (some (.tup (B.map .int))) := by rw [List.getElem?_set_ne hk]; exact h
  have h2 : (env.set i (some (PV.int x)))[i]? = some (some (.int x)) := List.getElem?_set_self hi
  simp only [evF_end, end_nx, end_rt, FU, e_non, e_bl, e_int, e_str, e_ty, e_var, getV_some, e_glo, e_tup, e_lst, e_bin, e_neg, negV_int, e_not, e_and, e_or, andV_bl, orV_bl, and_pure, or_pure, e_cmp, e_chain, e_ite, e_idx, e_sli, e_gcd, gcdV_int, e_call, callR_ret, e_bi, e_comp, l_nil, l_cons, s_nil, s_cons, then_nx, then_rt, turn_eq, ife_t, ife_f, ifeG_eq, c_asg, c_ret, c_retO, c_exp, c_ife, c_for, c_asgO, c_app, c_sset, g0, gS, st0, stS, thaw_tup, thaw_lst, thaw_own, thaw_int, thaw_bl, thaw_str, thaw_non, thaw_stm, own_tup, own_lst, own_own, own_int, own_bl, own_str, own_non, own_ty, own_stm, tru_bl, tru_int, seq_tup, seq_lst, seq_own, lst_lst, lst_own, add_int, sub_int, eq_int, ne_int, lt_int', le_int', gt_int', ge_int', ne_bl, eq_bl, idx_tup, idx_lst, idx_own, len_1, all_1, any_1, sum_1, tuple_1, list_1, sorted_1, int_1, abs_1, type_1, bind_nm, bind_tp, bind_tpl, min1_1, max1_1, mind_1, min2_1, max2_1, it_enum, enumB_lst, c_par, it_seq, it_rng1, it_rng2, rngA_int, rngB_int, it_zip, zip_tup, zip_lst, par_none, par_some, parB_int, sli_tup, sli_lst, step_none, step_some, wipe_nil, wipe_cons, List.map_cons, List.map_nil, List.length_cons, len_nil, List.all_cons, List.all_nil, List.replicate, List.cons_append, List.nil_append, List.append_nil, List.zip_cons_cons, List.zip_nil_right, List.foldl_cons, List.foldl_nil, eq_self, Option.bind_some, Option.map_some, Bool.not_false, Bool.not_true, Bool.true_and, Bool.and_true, Bool.false_and, Bool.and_false, Bool.or_true, Bool.true_or, Bool.or_false, Bool.false_or, if_true, Bool.false_eq_true, if_false, Nat.sub_self, Nat.reduceAdd, Nat.reduceSub, Nat.reduceEqDiff, ite_true, ite_false, Nat.reduceLeDiff, h1, h2, nmem_tup]
  cases decide (x ∈ B) <;> rfl
theorem comp_nin2 {T : Tbl} {m n i k l : Nat} {env : Env} {S : Strm} {A B C : List Int} (hm : m = n + 3) (hi : i < env.length) (hk : i ≠ k) (hl : i ≠ l) (h : env[k]? = some (some (.tup (B.map .int)))) (h' : env[l]? = some (some (.tup (C.map .int)))) :
    compL (stepV (fun e env S => evE T m e env S) (.var i) (.nm i) (some (.and (.cmp .nmem (.var i) (.var k)) (.cmp .nmem (.var i) (.var l)))) env) (A.map .int) S = some ((A.filter fun x => !decide (x ∈ B) && !decide (x ∈ C)).map .int, S) := by
  subst hm
  refine compL_filter fun x _ => ?_
  have h1 : (env.set i (some (PV.int x)))[k]? = some (some (.tup (B.map .int))) := by rw [List.getElem?_set_ne hk]; exact h
  have h1' : (env.set i (some (PV.int x)))[l]? = some (some (.tup (C.map .int))) := by rw [List.getElem?_set_ne hl]; exact h'
  have h2 : (env.set i (some (PV.int x)))[i]? = some (some (.int x)) := List.getElem?_set_self hi
  simp only [evF_end, end_nx, end_rt, FU, e_non, e_bl, e_int, e_str, e_ty, e_var, getV_some, e_glo, e_tup, e_lst, e_bin, e_neg, negV_int, e_not, e_and, e_or, andV_bl, orV_bl, and_pure, or_pure, e_cmp, e_chain, e_ite, e_idx, e_sli, e_gcd, gcdV_int, e_call, callR_ret, e_bi, e_comp, l_nil, l_cons, s_nil, s_cons, then_nx, then_rt, turn_eq, ife_t, ife_f, ifeG_eq, c_asg, c_ret, c_retO, c_exp, c_ife, c_for, c_asgO, c_app, c_sset, g0, gS, st0, stS, thaw_tup, thaw_lst, thaw_own, thaw_int, thaw_bl, thaw_str, thaw_non, thaw_stm, own_tup, own_lst, own_own, own_int, own_bl, own_str, own_non, own_ty, own_stm, tru_bl, tru_int, seq_tup, seq_lst, seq_own, lst_lst, lst_own, add_int, sub_int, eq_int, ne_int, lt_int', le_int', gt_int', ge_int', ne_bl, eq_bl, idx_tup, idx_lst, idx_own, len_1, all_1, any_1, sum_1, tuple_1, list_1, sorted_1, int_1, abs_1, type_1, bind_nm, bind_tp, bind_tpl, min1_1, max1_1, mind_1, min2_1, max2_1, it_enum, enumB_lst, c_par, it_seq, it_rng1, it_rng2, rngA_int, rngB_int, it_zip, zip_tup, zip_lst, par_none, par_some, parB_int, sli_tup, sli_lst, step_none, step_some, wipe_nil, wipe_cons, List.map_cons, List.map_nil, List.length_cons, len_nil, List.all_cons, List.all_nil, List.replicate, List.cons_append, List.nil_append, List.append_nil, List.zip_cons_cons, List.zip_nil_right, List.foldl_cons, List.foldl_nil, eq_self, Option.bind_some, Option.map_some, Bool.not_false, Bool.not_true, Bool.true_and, Bool.and_true, Bool.false_and, Bool.and_false, Bool.or_true, Bool.true_or, Bool.or_false, Bool.false_or, if_true, Bool.false_eq_true, if_false, Nat.sub_self, Nat.reduceAdd, Nat.reduceSub, Nat.reduceEqDiff, ite_true, ite_false, Nat.reduceLeDiff, h1, h1', h2, nmem_tup]
  cases decide (x ∈ B) <;> cases decide (x ∈ C) <;> rfl
theorem rangeV_ints {b : Int} : rangeV 0 b = ((List.range b.toNat).map fun k : Nat => (k : Int)).map PV.int := by
  unfold rangeV
  rw [List.map_map, Int.sub_zero]
  refine List.map_congr_left fun k _ => ?_
  show PV.int (0 + k) = PV.int k
  rw [Int.zero_add]
/-- sorted ints -/
def srtI (l : List Int) : List Int := isort (fun a b => decide (a ≤ b)) l
theorem ints_pds : ∀ {l : List Int}, PV.pds (l.map PV.int) = some (l.map PyData.int)
  | [] => rfl
  | x :: l => by rw [List.map_cons, PV.pds, ints_pds]; rfl
theorem isort_map {α β : Type} {r : α → α → Bool} {s : β → β → Bool} (f : α → β) (h : ∀ a b, r a b = s (f a) (f b)) : ∀ l : List α, (isort r l).map f = isort s (l.map f)
  | [] => rfl
  | x :: l => by
    have q : ∀ ys : List α, (ins r x ys).map f = ins s (f x) (ys.map f) := by
      intro ys
      induction ys with
      | nil => rfl
      | cons y ys ih =>
        rw [List.map_cons, ins, ins, h x y]
        split
        · rfl
        · rw [List.map_cons, ih]
    rw [isort, q, isort_map f h l]; rfl
theorem srt_ints {l : List Int} : srtV (l.map .int) = some ((srtI l).map .int) := by
  unfold srtV
  rw [ints_pds, Option.bind_some, if_pos]
  · congr 1
    have e : (l.map PV.int).zip (l.map PyData.int) = l.map fun i => (PV.int i, PyData.int i) := by
      induction l with
      | nil => rfl
      | cons x l ih => simp only [List.map_cons, List.zip_cons_cons, ih]
    rw [e, ← isort_map (r := fun a b : Int => decide (a ≤ b)) (s := srtLe) (fun i => (PV.int i, PyData.int i)) (fun a b => ?_), List.map_map]
    · rfl
    · unfold srtLe
      rw [PySem.W.dataLt_int]
      by_cases h : b < a
      · rw [decide_eq_true h, decide_eq_false (by omega)]; rfl
      · rw [decide_eq_false h, decide_eq_true (by omega)]; rfl
  · simp only [Bool.and_eq_true, List.all_eq_true]
    refine ⟨⟨fun d hd e he => ?_, ?_⟩, fun d hd => ?_⟩
    · obtain ⟨i, _, rfl⟩ := List.mem_map.mp hd
      obtain ⟨j, _, rfl⟩ := List.mem_map.mp he
      simp [PySem.W.alike]
    · rw [Bool.or_eq_true]
      refine .inr (List.all_eq_true.mpr fun d hd => ?_)
      obtain ⟨i, _, rfl⟩ := List.mem_map.mp hd
      rfl
    · obtain ⟨i, _, rfl⟩ := List.mem_map.mp hd
      simp [PyData.depth]
theorem eq_nil {ns : List Int} : cmpV .eq (.tup (ns.map .int)) (.tup []) = some (decide (ns = [])) := by
  show eqD (.tup (ns.map .int)) (.tup []) = _
  unfold eqD
  have e1 : (PV.tup (ns.map .int)).pd = some (.tuple (ns.map .int)) := by rw [PV.pd, ints_pds]; rfl
  have e2 : (PV.tup []).pd = some (.tuple []) := by simp [PV.pd, PV.pds]
  rw [e1, e2]
  dsimp only
  have d0 : ∀ l : List Int, PyData.depthAll (l.map .int) = 0 := PySem.W.depth_ints
  have l0 : ∀ l : List Int, PyData.canLayAll0 (l.map .int) = true := by
    intro l
    induction l with
    | nil => simp [PyData.canLayAll0]
    | cons x l ih => rw [List.map_cons, PyData.canLayAll0, ih]; simp [PyData.canLay0]
  have s1 : SeqAt.shaped (.tuple (ns.map .int)) = true := by simp [SeqAt.shaped, PyData.canLay0, l0, PyData.depth, d0]
  have s2 : SeqAt.shaped (.tuple []) = true := by simp [SeqAt.shaped, PyData.canLay0, PyData.canLayAll0, PyData.depth, PyData.depthAll]
  rw [s1, s2]
  cases ns with
  | nil => simp [PyData.eqv, PyData.eqvAll]
  | cons x ns => simp [PyData.eqv, PyData.eqvAll]
end Ws

namespace K03
open PySem PySem.Spec PyProof.Rows L2 Ws
def top (i : Nat) : Stmt := PySem.Challenge.pw_wishshapes_k03_whole_two_fences.main.body.getD i (.Pass ⟨0, 0, 0, 0⟩)
abbrev bts : List Str := ["abs", "int", "len", "range", "tuple", "sorted", "type", "all", "zip", "sum", "list"]
abbrev s__law_stream : Stmt := top 24
abbrev N__law_stream : List Str := ["script"]
theorem sc__law_stream : FnScope N__law_stream ["script"] (defScope s__law_stream) := ⟨rfl, rfl, rfl, by decide +kernel, rfl, by decide +kernel, by decide +kernel⟩
abbrev s__law_next : Stmt := top 25
abbrev N__law_next : List Str := P.N__law_next
abbrev c__law_next : List CS := P.c__law_next
theorem k__law_next : chkB bts N__law_next (defScope s__law_next) 60 (defBody s__law_next) c__law_next = true := by decide +kernel
theorem sc__law_next : FnScope N__law_next ["stream", "many"] (defScope s__law_next) := ⟨rfl, rfl, rfl, by decide +kernel, rfl, by decide +kernel, by decide +kernel⟩
abbrev s__law_pick : Stmt := top 28
abbrev N__law_pick : List Str := P.N__law_pick
abbrev c__law_pick : List CS := P.c__law_pick
theorem k__law_pick : chkB bts N__law_pick (defScope s__law_pick) 60 (defBody s__law_pick) c__law_pick = true := by decide +kernel
theorem sc__law_pick : FnScope N__law_pick ["stream", "rows"] (defScope s__law_pick) := ⟨rfl, rfl, rfl, by decide +kernel, rfl, by decide +kernel, by decide +kernel⟩
abbrev s__law_links : Stmt := top 29
abbrev N__law_links : List Str := P.N__law_links
abbrev c__law_links : List CS := P.c__law_links
theorem k__law_links : chkB bts N__law_links (defScope s__law_links) 60 (defBody s__law_links) c__law_links = true := by decide +kernel
theorem sc__law_links : FnScope N__law_links ["stream", "points", "share", "most", "great"] (defScope s__law_links) := ⟨rfl, rfl, rfl, by decide +kernel, rfl, by decide +kernel, by decide +kernel⟩
abbrev s__law_fences : Stmt := top 30
abbrev N__law_fences : List Str := P.N__law_fences
abbrev c__law_fences : List CS := P.c__law_fences
theorem k__law_fences : chkB bts N__law_fences (defScope s__law_fences) 60 (defBody s__law_fences) c__law_fences = true := by decide +kernel
theorem sc__law_fences : FnScope N__law_fences ["points"] (defScope s__law_fences) := ⟨rfl, rfl, rfl, by decide +kernel, rfl, by decide +kernel, by decide +kernel⟩
abbrev s_is_tuple : Stmt := top 9
abbrev N_is_tuple : List Str := P.N_is_tuple
abbrev c_is_tuple : List CS := P.c_is_tuple
theorem k_is_tuple : chkB bts N_is_tuple (defScope s_is_tuple) 60 (defBody s_is_tuple) c_is_tuple = true := by decide +kernel
theorem sc_is_tuple : FnScope N_is_tuple ["value", "least", "most"] (defScope s_is_tuple) := ⟨rfl, rfl, rfl, by decide +kernel, rfl, by decide +kernel, by decide +kernel⟩
abbrev s_is_within : Stmt := top 8
abbrev N_is_within : List Str := P.N_is_within
abbrev c_is_within : List CS := P.c_is_within
theorem k_is_within : chkB bts N_is_within (defScope s_is_within) 60 (defBody s_is_within) c_is_within = true := by decide +kernel
theorem sc_is_within : FnScope N_is_within ["value", "least", "most"] (defScope s_is_within) := ⟨rfl, rfl, rfl, by decide +kernel, rfl, by decide +kernel, by decide +kernel⟩
abbrev s_is_pair : Stmt := top 11
abbrev N_is_pair : List Str := P.N_is_pair
abbrev c_is_pair : List CS := P.c_is_pair
theorem k_is_pair : chkB bts N_is_pair (defScope s_is_pair) 60 (defBody s_is_pair) c_is_pair = true := by decide +kernel
theorem sc_is_pair : FnScope N_is_pair ["value", "points"] (defScope s_is_pair) := ⟨rfl, rfl, rfl, by decide +kernel, rfl, by decide +kernel, by decide +kernel⟩
abbrev s_is_link : Stmt := top 12
abbrev N_is_link : List Str := P.N_is_link
abbrev c_is_link : List CS := P.c_is_link
theorem k_is_link : chkB bts N_is_link (defScope s_is_link) 60 (defBody s_is_link) c_is_link = true := by decide +kernel
theorem sc_is_link : FnScope N_is_link ["value", "points", "most"] (defScope s_is_link) := ⟨rfl, rfl, rfl, by decide +kernel, rfl, by decide +kernel, by decide +kernel⟩
abbrev s_is_ascending : Stmt := top 10
abbrev N_is_ascending : List Str := P.N_is_ascending
abbrev c_is_ascending : List CS := P.c_is_ascending
theorem k_is_ascending : chkB bts N_is_ascending (defScope s_is_ascending) 60 (defBody s_is_ascending) c_is_ascending = true := by decide +kernel
theorem sc_is_ascending : FnScope N_is_ascending ["items"] (defScope s_is_ascending) := ⟨rfl, rfl, rfl, by decide +kernel, rfl, by decide +kernel, by decide +kernel⟩
abbrev s_are_links : Stmt := top 13
abbrev N_are_links : List Str := P.N_are_links
abbrev c_are_links : List CS := P.c_are_links
theorem k_are_links : chkB bts N_are_links (defScope s_are_links) 60 (defBody s_are_links) c_are_links = true := by decide +kernel
theorem sc_are_links : FnScope N_are_links ["value", "points", "many", "most"] (defScope s_are_links) := ⟨rfl, rfl, rfl, by decide +kernel, rfl, by decide +kernel, by decide +kernel⟩
abbrev s_is_net : Stmt := top 16
abbrev N_is_net : List Str := P.N_is_net
abbrev c_is_net : List CS := P.c_is_net
theorem k_is_net : chkB bts N_is_net (defScope s_is_net) 60 (defBody s_is_net) c_is_net = true := by decide +kernel
theorem sc_is_net : FnScope N_is_net ["value"] (defScope s_is_net) := ⟨rfl, rfl, rfl, by decide +kernel, rfl, by decide +kernel, by decide +kernel⟩
abbrev s_need_net : Stmt := top 18
abbrev N_need_net : List Str := P.N_need_net
abbrev c_need_net : List CS := P.c_need_net
theorem k_need_net : chkB bts N_need_net (defScope s_need_net) 60 (defBody s_need_net) c_need_net = true := by decide +kernel
theorem sc_need_net : FnScope N_need_net ["net"] (defScope s_need_net) := ⟨rfl, rfl, rfl, by decide +kernel, rfl, by decide +kernel, by decide +kernel⟩
abbrev s_are_rising : Stmt := top 14
abbrev N_are_rising : List Str := P.N_are_rising
abbrev c_are_rising : List CS := P.c_are_rising
theorem k_are_rising : chkB bts N_are_rising (defScope s_are_rising) 60 (defBody s_are_rising) c_are_rising = true := by decide +kernel
theorem sc_are_rising : FnScope N_are_rising ["value", "least", "most"] (defScope s_are_rising) := ⟨rfl, rfl, rfl, by decide +kernel, rfl, by decide +kernel, by decide +kernel⟩
abbrev s_are_some : Stmt := top 15
abbrev N_are_some : List Str := P.N_are_some
abbrev c_are_some : List CS := P.c_are_some
theorem k_are_some : chkB bts N_are_some (defScope s_are_some) 60 (defBody s_are_some) c_are_some = true := by decide +kernel
theorem sc_are_some : FnScope N_are_some ["value", "least", "points"] (defScope s_are_some) := ⟨rfl, rfl, rfl, by decide +kernel, rfl, by decide +kernel, by decide +kernel⟩
abbrev s_is_fence : Stmt := top 17
abbrev N_is_fence : List Str := P.N_is_fence
abbrev c_is_fence : List CS := P.c_is_fence
theorem k_is_fence : chkB bts N_is_fence (defScope s_is_fence) 60 (defBody s_is_fence) c_is_fence = true := by decide +kernel
theorem sc_is_fence : FnScope N_is_fence ["net", "value"] (defScope s_is_fence) := ⟨rfl, rfl, rfl, by decide +kernel, rfl, by decide +kernel, by decide +kernel⟩
abbrev s_need_fence : Stmt := top 19
abbrev N_need_fence : List Str := P.N_need_fence
abbrev c_need_fence : List CS := P.c_need_fence
theorem k_need_fence : chkB bts N_need_fence (defScope s_need_fence) 60 (defBody s_need_fence) c_need_fence = true := by decide +kernel
theorem sc_need_fence : FnScope N_need_fence ["net", "fence"] (defScope s_need_fence) := ⟨rfl, rfl, rfl, by decide +kernel, rfl, by decide +kernel, by decide +kernel⟩
abbrev s_is_parted : Stmt := top 20
abbrev N_is_parted : List Str := P.N_is_parted
abbrev c_is_parted : List CS := P.c_is_parted
theorem k_is_parted : chkB bts N_is_parted (defScope s_is_parted) 60 (defBody s_is_parted) c_is_parted = true := by decide +kernel
theorem sc_is_parted : FnScope N_is_parted ["fence", "one", "other"] (defScope s_is_parted) := ⟨rfl, rfl, rfl, by decide +kernel, rfl, by decide +kernel, by decide +kernel⟩
abbrev s_crossing : Stmt := top 21
abbrev N_crossing : List Str := P.N_crossing
abbrev c_crossing : List CS := P.c_crossing
theorem k_crossing : chkB bts N_crossing (defScope s_crossing) 60 (defBody s_crossing) c_crossing = true := by decide +kernel
theorem sc_crossing : FnScope N_crossing ["links", "fence"] (defScope s_crossing) := ⟨rfl, rfl, rfl, by decide +kernel, rfl, by decide +kernel, by decide +kernel⟩
abbrev s_width : Stmt := top 22
abbrev N_width : List Str := P.N_width
abbrev c_width : List CS := P.c_width
theorem k_width : chkB bts N_width (defScope s_width) 60 (defBody s_width) c_width = true := by decide +kernel
theorem sc_width : FnScope N_width ["net", "fence"] (defScope s_width) := ⟨rfl, rfl, rfl, by decide +kernel, rfl, by decide +kernel, by decide +kernel⟩
abbrev s__law_width : Stmt := top 32
abbrev N__law_width : List Str := P.N__law_width
abbrev c__law_width : List CS := P.c__law_width
theorem k__law_width : chkB bts N__law_width (defScope s__law_width) 60 (defBody s__law_width) c__law_width = true := by decide +kernel
theorem sc__law_width : FnScope N__law_width ["net", "points"] (defScope s__law_width) := ⟨rfl, rfl, rfl, by decide +kernel, rfl, by decide +kernel, by decide +kernel⟩
abbrev s__law_between : Stmt := top 31
abbrev N__law_between : List Str := P.N__law_between
abbrev c__law_between : List CS := P.c__law_between
theorem k__law_between : chkB bts N__law_between (defScope s__law_between) 60 (defBody s__law_between) c__law_between = true := by decide +kernel
theorem sc__law_between : FnScope N__law_between ["roads", "first", "second"] (defScope s__law_between) := ⟨rfl, rfl, rfl, by decide +kernel, rfl, by decide +kernel, by decide +kernel⟩
abbrev s_law : Stmt := top 33
abbrev N_law : List Str := ["script", "stream", "points", "roads", "net", "rows", "one", "other", "both", "first", "second", "neither", "every", "told", "point"]
def c_law : List CS := [
  .asg (.nm 2) (.bin .add (.int 2) (.call "_law_next" [(.var 1), (.int 4)])),
  .asg (.nm 3) (.call "_law_links" [(.var 1), (.var 2), (.call "_law_pick" [(.var 1), (.lst [(.int 1), (.int 2), (.int 3)])]), (.int 15), (.int 6)]),
  .asg (.nm 4) (.tup [(.var 2), (.var 3)]),
  .asg (.nm 5) (.call "_law_fences" [(.var 2)]),
  .for_ (.nm 6) (.seq (.var 5)) [.for_ (.nm 7) (.seq (.var 5)) [.asg (.nm 8) (.bi .tuple [(.comp (.var 14) (.nm 14) (.seq (.var 6)) (some (.cmp .mem (.var 14) (.var 7))) [("point", 14)])]), .asg (.nm 9) (.bi .tuple [(.comp (.var 14) (.nm 14) (.seq (.var 6)) (some (.cmp .nmem (.var 14) (.var 7))) [("point", 14)])]), .asg (.nm 10) (.bi .tuple [(.comp (.var 14) (.nm 14) (.seq (.var 7)) (some (.cmp .nmem (.var 14) (.var 6))) [("point", 14)])]), .asg (.nm 11) (.bi .tuple [(.comp (.var 14) (.nm 14) (.rng1 (.var 2)) (some (.and (.cmp .nmem (.var 14) (.var 6)) (.cmp .nmem (.var 14) (.var 7)))) [("point", 14)])]), .asg (.nm 12) (.bi .tuple [(.bi .sorted [(.bin .add (.var 9) (.var 7))])]), .asg (.nm 13) (.bin .add (.call "width" [(.var 4), (.var 6)]) (.call "width" [(.var 4), (.var 7)])), .ife (.cmp .ne (.bin .sub (.bin .sub (.var 13) (.call "_law_width" [(.var 4), (.var 8)])) (.call "_law_width" [(.var 4), (.var 12)])) (.bin .mul (.int 2) (.call "_law_between" [(.var 3), (.var 9), (.var 10)]))) [.ret (.bl false)] [], .ife (.cmp .ne (.bin .sub (.bin .sub (.var 13) (.call "_law_width" [(.var 4), (.var 9)])) (.call "_law_width" [(.var 4), (.var 10)])) (.bin .mul (.int 2) (.call "_law_between" [(.var 3), (.var 8), (.var 11)]))) [.ret (.bl false)] []]],
  .ret (.bl true)]
theorem k_law : chkB bts N_law (defScope s_law) 60 ((defBody s_law).drop 1) c_law = true := by decide +kernel
theorem sc_law : FnScope N_law ["script"] (defScope s_law) := ⟨rfl, rfl, rfl, by decide +kernel, rfl, by decide +kernel, by decide +kernel⟩
end K03

namespace K03
open PySem PySem.Spec L2 Ws

def LawWidthOk (φ : Fn) : Prop := ∀ n ls ns S, GoodNet n ls → (ns = [] ∨ GoodFence n ns) → φ [netV n ls, .tup (ns.map .int)] S = some (.ret (.int (crossV ls ns)), S)
theorem lawWidth_ok {T : Tbl} (H : ∃ φ, T.fn "width" = some (2, φ) ∧ WidthOk φ) : LawWidthOk (evF T 2 P.c__law_width) := by
  intro n ls ns S g f
  obtain ⟨φ, e, h⟩ := H
  unfold P.c__law_width
  by_cases hn : ns = []
  · have e0 : crossV ls ns = 0 := by
      subst hn
      unfold crossV
      have : (ls.filter fun r => decide (r.1 ∈ ([] : List Int)) != decide (r.2.1 ∈ ([] : List Int))) = [] := by simp
      rw [this]; rfl
    have d : decide (ns = []) = true := decide_eq_true hn
    unfold netV
    simp only [evF_end, end_nx, end_rt, FU, e_non, e_bl, e_int, e_str, e_ty, e_var, getV_some, e_glo, e_tup, e_lst, e_bin, e_neg, negV_int, e_not, e_and, e_or, andV_bl, orV_bl, and_pure, or_pure, e_cmp, e_chain, e_ite, e_idx, e_sli, e_gcd, gcdV_int, e_call, callR_ret, e_bi, e_comp, l_nil, l_cons, s_nil, s_cons, then_nx, then_rt, turn_eq, ife_t, ife_f, ifeG_eq, c_asg, c_ret, c_retO, c_exp, c_ife, c_for, c_asgO, c_app, c_sset, g0, gS, st0, stS, thaw_tup, thaw_lst, thaw_own, thaw_int, thaw_bl, thaw_str, thaw_non, thaw_stm, own_tup, own_lst, own_own, own_int, own_bl, own_str, own_non, own_ty, own_stm, tru_bl, tru_int, seq_tup, seq_lst, seq_own, lst_lst, lst_own, add_int, sub_int, eq_int, ne_int, lt_int', le_int', gt_int', ge_int', ne_bl, eq_bl, idx_tup, idx_lst, idx_own, len_1, all_1, any_1, sum_1, tuple_1, list_1, sorted_1, int_1, abs_1, type_1, bind_nm, bind_tp, bind_tpl, min1_1, max1_1, mind_1, min2_1, max2_1, it_enum, enumB_lst, c_par, it_seq, it_rng1, it_rng2, rngA_int, rngB_int, it_zip, zip_tup, zip_lst, par_none, par_some, parB_int, sli_tup, sli_lst, step_none, step_some, wipe_nil, wipe_cons, List.map_cons, List.map_nil, List.length_cons, len_nil, List.all_cons, List.all_nil, List.replicate, List.cons_append, List.nil_append, List.append_nil, List.zip_cons_cons, List.zip_nil_right, List.foldl_cons, List.foldl_nil, eq_self, Option.bind_some, Option.map_some, Bool.not_false, Bool.not_true, Bool.true_and, Bool.and_true, Bool.false_and, Bool.and_false, Bool.or_true, Bool.true_or, Bool.or_false, Bool.false_or, if_true, Bool.false_eq_true, if_false, Nat.sub_self, Nat.reduceAdd, Nat.reduceSub, Nat.reduceEqDiff, ite_true, ite_false, Nat.reduceLeDiff, eq_nil, d, e0, lim0]
  · have h' : ∀ S, φ [netV n ls, .tup (ns.map .int)] S = some (.ret (.int (crossV ls ns)), S) := fun S => h _ _ _ _ g (f.resolve_left hn)
    have d : decide (ns = []) = false := decide_eq_false hn
    unfold netV at h' ⊢
    simp only [evF_end, end_nx, end_rt, FU, e_non, e_bl, e_int, e_str, e_ty, e_var, getV_some, e_glo, e_tup, e_lst, e_bin, e_neg, negV_int, e_not, e_and, e_or, andV_bl, orV_bl, and_pure, or_pure, e_cmp, e_chain, e_ite, e_idx, e_sli, e_gcd, gcdV_int, e_call, callR_ret, e_bi, e_comp, l_nil, l_cons, s_nil, s_cons, then_nx, then_rt, turn_eq, ife_t, ife_f, ifeG_eq, c_asg, c_ret, c_retO, c_exp, c_ife, c_for, c_asgO, c_app, c_sset, g0, gS, st0, stS, thaw_tup, thaw_lst, thaw_own, thaw_int, thaw_bl, thaw_str, thaw_non, thaw_stm, own_tup, own_lst, own_own, own_int, own_bl, own_str, own_non, own_ty, own_stm, tru_bl, tru_int, seq_tup, seq_lst, seq_own, lst_lst, lst_own, add_int, sub_int, eq_int, ne_int, lt_int', le_int', gt_int', ge_int', ne_bl, eq_bl, idx_tup, idx_lst, idx_own, len_1, all_1, any_1, sum_1, tuple_1, list_1, sorted_1, int_1, abs_1, type_1, bind_nm, bind_tp, bind_tpl, min1_1, max1_1, mind_1, min2_1, max2_1, it_enum, enumB_lst, c_par, it_seq, it_rng1, it_rng2, rngA_int, rngB_int, it_zip, zip_tup, zip_lst, par_none, par_some, parB_int, sli_tup, sli_lst, step_none, step_some, wipe_nil, wipe_cons, List.map_cons, List.map_nil, List.length_cons, len_nil, List.all_cons, List.all_nil, List.replicate, List.cons_append, List.nil_append, List.append_nil, List.zip_cons_cons, List.zip_nil_right, List.foldl_cons, List.foldl_nil, eq_self, Option.bind_some, Option.map_some, Bool.not_false, Bool.not_true, Bool.true_and, Bool.and_true, Bool.false_and, Bool.and_false, Bool.or_true, Bool.true_or, Bool.or_false, Bool.false_or, if_true, Bool.false_eq_true, if_false, Nat.sub_self, Nat.reduceAdd, Nat.reduceSub, Nat.reduceEqDiff, ite_true, ite_false, Nat.reduceLeDiff, eq_nil, d, e, h', lim0]
def betweenV (ls : List Lk) (A B : List Int) : Int :=
  (((ls.filter fun r => decide (r.1 ∈ A) && decide (r.2.1 ∈ B)).map fun r => r.2.2) ++ ((ls.filter fun r => decide (r.2.1 ∈ A) && decide (r.1 ∈ B)).map fun r => r.2.2)).sum
def BetweenOk (φ : Fn) : Prop := ∀ ls A B S, ls.length ≤ 1000 → φ [.tup (ls.map lk), .tup (A.map .int), .tup (B.map .int)] S = some (.ret (.int (betweenV ls A B)), S)
theorem at0 {a b c : PV} : atI [a, b, c] 0 = some a := rfl
theorem at1 {a b c : PV} : atI [a, b, c] 1 = some b := rfl
theorem at2 {a b c : PV} : atI [a, b, c] 2 = some c := rfl
theorem between_ok {T : Tbl} : BetweenOk (evF T 5 P.c__law_between) := by
  intro ls A B S hl
  unfold P.c__law_between
  have hlen : (ls.map lk).length ≤ LIM := by rw [List.length_map]; unfold LIM; omega
  have step1 : ∀ n o, ∀ r ∈ ls, stepV (fun e env S => evE T (n + 4) e env S) (.idx (.var 4) (.int 2)) (.nm 4) (some (.and (.cmp .mem (.idx (.var 4) (.int 0)) (.var 1)) (.cmp .mem (.idx (.var 4) (.int 1)) (.var 2)))) [some (.tup (ls.map lk)), some (.tup (A.map .int)), some (.tup (B.map .int)), o, none] (lk r) S =
      some (if decide (r.1 ∈ A) && decide (r.2.1 ∈ B) then some (.int r.2.2) else none, S) := by
    intro n o r hr
    unfold lk
    simp only [evF_end, end_nx, end_rt, FU, e_non, e_bl, e_int, e_str, e_ty, e_var, getV_some, e_glo, e_tup, e_lst, e_bin, e_neg, negV_int, e_not, e_and, e_or, andV_bl, orV_bl, and_pure, or_pure, e_cmp, e_chain, e_ite, e_idx, e_sli, e_gcd, gcdV_int, e_call, callR_ret, e_bi, e_comp, l_nil, l_cons, s_nil, s_cons, then_nx, then_rt, turn_eq, ife_t, ife_f, ifeG_eq, c_asg, c_ret, c_retO, c_exp, c_ife, c_for, c_asgO, c_app, c_sset, g0, gS, st0, stS, thaw_tup, thaw_lst, thaw_own, thaw_int, thaw_bl, thaw_str, thaw_non, thaw_stm, own_tup, own_lst, own_own, own_int, own_bl, own_str, own_non, own_ty, own_stm, tru_bl, tru_int, seq_tup, seq_lst, seq_own, lst_lst, lst_own, add_int, sub_int, eq_int, ne_int, lt_int', le_int', gt_int', ge_int', ne_bl, eq_bl, idx_tup, idx_lst, idx_own, len_1, all_1, any_1, sum_1, tuple_1, list_1, sorted_1, int_1, abs_1, type_1, bind_nm, bind_tp, bind_tpl, min1_1, max1_1, mind_1, min2_1, max2_1, it_enum, enumB_lst, c_par, it_seq, it_rng1, it_rng2, rngA_int, rngB_int, it_zip, zip_tup, zip_lst, par_none, par_some, parB_int, sli_tup, sli_lst, step_none, step_some, wipe_nil, wipe_cons, List.map_cons, List.map_nil, List.length_cons, len_nil, List.all_cons, List.all_nil, List.replicate, List.cons_append, List.nil_append, List.append_nil, List.zip_cons_cons, List.zip_nil_right, List.foldl_cons, List.foldl_nil, eq_self, Option.bind_some, Option.map_some, Bool.not_false, Bool.not_true, Bool.true_and, Bool.and_true, Bool.false_and, Bool.and_false, Bool.or_true, Bool.true_or, Bool.or_false, Bool.false_or, if_true, Bool.false_eq_true, if_false, Nat.sub_self, Nat.reduceAdd, Nat.reduceSub, Nat.reduceEqDiff, ite_true, ite_false, Nat.reduceLeDiff, mem_tup, at0, at1, at2]
    cases decide (r.1 ∈ A) <;> cases decide (r.2.1 ∈ B) <;> rfl
  have step2 : ∀ n o, ∀ r ∈ ls, stepV (fun e env S => evE T (n + 4) e env S) (.idx (.var 4) (.int 2)) (.nm 4) (some (.and (.cmp .mem (.idx (.var 4) (.int 1)) (.var 1)) (.cmp .mem (.idx (.var 4) (.int 0)) (.var 2)))) [some (.tup (ls.map lk)), some (.tup (A.map .int)), some (.tup (B.map .int)), o, none] (lk r) S =
      some (if decide (r.2.1 ∈ A) && decide (r.1 ∈ B) then some (.int r.2.2) else none, S) := by
    intro n o r hr
    unfold lk
    simp only [evF_end, end_nx, end_rt, FU, e_non, e_bl, e_int, e_str, e_ty, e_var, getV_some, e_glo, e_tup, e_lst, e_bin, e_neg, negV_int, e_not, e_and, e_or, andV_bl, orV_bl, and_pure, or_pure, e_cmp, e_chain, e_ite, e_idx, e_sli, e_gcd, gcdV_int, e_call, callR_ret, e_bi, e_comp, l_nil, l_cons, s_nil, s_cons, then_nx, then_rt, turn_eq, ife_t, ife_f, ifeG_eq, c_asg, c_ret, c_retO, c_exp, c_ife, c_for, c_asgO, c_app, c_sset, g0, gS, st0, stS, thaw_tup, thaw_lst, thaw_own, thaw_int, thaw_bl, thaw_str, thaw_non, thaw_stm, own_tup, own_lst, own_own, own_int, own_bl, own_str, own_non, own_ty, own_stm, tru_bl, tru_int, seq_tup, seq_lst, seq_own, lst_lst, lst_own, add_int, sub_int, eq_int, ne_int, lt_int', le_int', gt_int', ge_int', ne_bl, eq_bl, idx_tup, idx_lst, idx_own, len_1, all_1, any_1, sum_1, tuple_1, list_1, sorted_1, int_1, abs_1, type_1, bind_nm, bind_tp, bind_tpl, min1_1, max1_1, mind_1, min2_1, max2_1, it_enum, enumB_lst, c_par, it_seq, it_rng1, it_rng2, rngA_int, rngB_int, it_zip, zip_tup, zip_lst, par_none, par_some, parB_int, sli_tup, sli_lst, step_none, step_some, wipe_nil, wipe_cons, List.map_cons, List.map_nil, List.length_cons, len_nil, List.all_cons, List.all_nil, List.replicate, List.cons_append, List.nil_append, List.append_nil, List.zip_cons_cons, List.zip_nil_right, List.foldl_cons, List.foldl_nil, eq_self, Option.bind_some, Option.map_some, Bool.not_false, Bool.not_true, Bool.true_and, Bool.and_true, Bool.false_and, Bool.and_false, Bool.or_true, Bool.true_or, Bool.or_false, Bool.false_or, if_true, Bool.false_eq_true, if_false, Nat.sub_self, Nat.reduceAdd, Nat.reduceSub, Nat.reduceEqDiff, ite_true, ite_false, Nat.reduceLeDiff, mem_tup, at0, at1, at2]
    cases decide (r.2.1 ∈ A) <;> cases decide (r.1 ∈ B) <;> rfl
  have w1 := fun n o => compL_map (f := lk) (g := fun r => if decide (r.1 ∈ A) && decide (r.2.1 ∈ B) then some (PV.int r.2.2) else none) (step1 n o)
  have w2 := fun n o => compL_map (f := lk) (g := fun r => if decide (r.2.1 ∈ A) && decide (r.1 ∈ B) then some (PV.int r.2.2) else none) (step2 n o)
  have f1 := filterMap_if (fun r : Lk => decide (r.1 ∈ A) && decide (r.2.1 ∈ B)) (fun r => PV.int r.2.2) ls
  have f2 := filterMap_if (fun r : Lk => decide (r.2.1 ∈ A) && decide (r.1 ∈ B)) (fun r => PV.int r.2.2) ls
  have g1 : ((ls.filter fun r => decide (r.1 ∈ A) && decide (r.2.1 ∈ B)).map fun r => PV.int r.2.2) = ((ls.filter fun r => decide (r.1 ∈ A) && decide (r.2.1 ∈ B)).map fun r => r.2.2).map PV.int := by rw [List.map_map]; rfl
  have g2 : ((ls.filter fun r => decide (r.2.1 ∈ A) && decide (r.1 ∈ B)).map fun r => PV.int r.2.2) = ((ls.filter fun r => decide (r.2.1 ∈ A) && decide (r.1 ∈ B)).map fun r => r.2.2).map PV.int := by rw [List.map_map]; rfl
  rw [f1, g1] at w1
  rw [f2, g2] at w2
  have hs : (((ls.filter fun r => decide (r.1 ∈ A) && decide (r.2.1 ∈ B)).map fun r => r.2.2).map PV.int).length + (((ls.filter fun r => decide (r.2.1 ∈ A) && decide (r.1 ∈ B)).map fun r => r.2.2).map PV.int).length ≤ LIM := by
    rw [List.length_map, List.length_map, List.length_map, List.length_map]
    have a1 := List.length_filter_le (fun r : Lk => decide (r.1 ∈ A) && decide (r.2.1 ∈ B)) ls
    have a2 := List.length_filter_le (fun r : Lk => decide (r.2.1 ∈ A) && decide (r.1 ∈ B)) ls
    unfold LIM
    omega
  have w1' := w1 55 none
  have w2' := w2 53
  simp only [evF_end, end_nx, end_rt, FU, e_non, e_bl, e_int, e_str, e_ty, e_var, getV_some, e_glo, e_tup, e_lst, e_bin, e_neg, negV_int, e_not, e_and, e_or, andV_bl, orV_bl, and_pure, or_pure, e_cmp, e_chain, e_ite, e_idx, e_sli, e_gcd, gcdV_int, e_call, callR_ret, e_bi, e_comp, l_nil, l_cons, s_nil, s_cons, then_nx, then_rt, turn_eq, ife_t, ife_f, ifeG_eq, c_asg, c_ret, c_retO, c_exp, c_ife, c_for, c_asgO, c_app, c_sset, g0, gS, st0, stS, thaw_tup, thaw_lst, thaw_own, thaw_int, thaw_bl, thaw_str, thaw_non, thaw_stm, own_tup, own_lst, own_own, own_int, own_bl, own_str, own_non, own_ty, own_stm, tru_bl, tru_int, seq_tup, seq_lst, seq_own, lst_lst, lst_own, add_int, sub_int, eq_int, ne_int, lt_int', le_int', gt_int', ge_int', ne_bl, eq_bl, idx_tup, idx_lst, idx_own, len_1, all_1, any_1, sum_1, tuple_1, list_1, sorted_1, int_1, abs_1, type_1, bind_nm, bind_tp, bind_tpl, min1_1, max1_1, mind_1, min2_1, max2_1, it_enum, enumB_lst, c_par, it_seq, it_rng1, it_rng2, rngA_int, rngB_int, it_zip, zip_tup, zip_lst, par_none, par_some, parB_int, sli_tup, sli_lst, step_none, step_some, wipe_nil, wipe_cons, List.map_cons, List.map_nil, List.length_cons, len_nil, List.all_cons, List.all_nil, List.replicate, List.cons_append, List.nil_append, List.append_nil, List.zip_cons_cons, List.zip_nil_right, List.foldl_cons, List.foldl_nil, eq_self, Option.bind_some, Option.map_some, Bool.not_false, Bool.not_true, Bool.true_and, Bool.and_true, Bool.false_and, Bool.and_false, Bool.or_true, Bool.true_or, Bool.or_false, Bool.false_or, if_true, Bool.false_eq_true, if_false, Nat.sub_self, Nat.reduceAdd, Nat.reduceSub, Nat.reduceEqDiff, ite_true, ite_false, Nat.reduceLeDiff, hlen, w1', w2', add_lst, hs, ← List.map_append, ints_map]
  rw [betweenV, List.map_append]

/-! ### the identities, point by point -/
def ft (A B : List Int) : List Int := A.filter fun x => decide (x ∈ B)
def fn (A B : List Int) : List Int := A.filter fun x => !decide (x ∈ B)
def fz (p : Int) (A B : List Int) : List Int := ((List.range p.toNat).map fun k : Nat => (k : Int)).filter fun x => !decide (x ∈ A) && !decide (x ∈ B)
def cr (A : List Int) (i j : Int) : Int := if decide (i ∈ A) != decide (j ∈ A) then 1 else 0
def bt (A B : List Int) (i j : Int) : Int := (if decide (i ∈ A) && decide (j ∈ B) then 1 else 0) + (if decide (j ∈ A) && decide (i ∈ B) then 1 else 0)
def isF (p : Int) (A : List Int) : Bool := decide (1 ≤ A.length) && decide ((A.length : Int) ≤ p - 1) && (A.all fun i => decide (1 ≤ i) && decide (i ≤ p - 1)) && ascI A
def isF0 (p : Int) (A : List Int) : Bool := decide (A = []) || isF p A
theorem isF_of {p : Int} {A : List Int} (h : isF p A = true) : GoodFence p A := by
  simp only [isF, Bool.and_eq_true, decide_eq_true_eq, List.all_eq_true] at h
  exact ⟨h.1.1.1, h.1.1.2, h.1.2, h.2⟩
theorem isF0_of {p : Int} {A : List Int} (h : isF0 p A = true) : A = [] ∨ GoodFence p A := by
  simp only [isF0, Bool.or_eq_true, decide_eq_true_eq] at h
  exact h.imp id isF_of
def pairOk (A B : List Int) (p : Int) (i j : Int) : Bool :=
  decide (cr A i j + cr B i j - cr (ft A B) i j - cr (srtI (fn A B ++ B)) i j = 2 * bt (fn A B) (fn B A) i j) &&
  decide (cr A i j + cr B i j - cr (fn A B) i j - cr (fn B A) i j = 2 * bt (ft A B) (fz p A B) i j)
def rng (p : Int) : List Int := (List.range p.toNat).map fun k : Nat => (k : Int)
def chk (p : Int) : Bool := decide ((fences p).length ≤ 100) && (fences p).all fun A => isF p A && (fences p).all fun B => isF0 p (ft A B) && isF0 p (fn A B) && isF0 p (fn B A) && isF0 p (srtI (fn A B ++ B)) && decide ((fn A B).length + B.length ≤ 100) &&
  (rng p).all fun i => (rng p).all fun j => pairOk A B p i j
theorem chk_ok : ∀ p ∈ ([2, 3, 4, 5] : List Int), chk p = true := by decide +kernel
/-- sums over the roads -/
theorem cross_sum (ls : List Lk) (A : List Int) : crossV ls A = (ls.map fun r => cr A r.1 r.2.1 * r.2.2).sum := by
  unfold crossV
  induction ls with
  | nil => rfl
  | cons r ls ih =>
    rw [List.map_cons, List.sum_cons, ← ih]
    unfold cr
    by_cases h : (decide (r.1 ∈ A) != decide (r.2.1 ∈ A)) = true
    · rw [List.filter_cons, if_pos h, if_pos h, List.map_cons, List.sum_cons, Int.one_mul]
    · rw [List.filter_cons, if_neg h, if_neg h, Int.zero_mul, Int.zero_add]
theorem bt_sum (ls : List Lk) (A B : List Int) : betweenV ls A B = (ls.map fun r => bt A B r.1 r.2.1 * r.2.2).sum := by
  unfold betweenV
  rw [List.sum_append]
  induction ls with
  | nil => rfl
  | cons r ls ih =>
    rw [List.map_cons, List.sum_cons, ← ih]
    unfold bt
    by_cases h : (decide (r.1 ∈ A) && decide (r.2.1 ∈ B)) = true <;> by_cases h' : (decide (r.2.1 ∈ A) && decide (r.1 ∈ B)) = true
    · rw [List.filter_cons, List.filter_cons, if_pos h, if_pos h', if_pos h, if_pos h', List.map_cons, List.map_cons, List.sum_cons, List.sum_cons]; omega
    · rw [List.filter_cons, List.filter_cons, if_pos h, if_neg h', if_pos h, if_neg h', List.map_cons, List.sum_cons]; omega
    · rw [List.filter_cons, List.filter_cons, if_neg h, if_pos h', if_neg h, if_pos h', List.map_cons, List.sum_cons]; omega
    · rw [List.filter_cons, List.filter_cons, if_neg h, if_neg h', if_neg h, if_neg h']; omega
theorem sum_id {a b c d e : Lk → Int} {ls : List Lk} (h : ∀ r ∈ ls, a r + b r - c r - d r = 2 * e r) :
    (ls.map fun r => a r * r.2.2).sum + (ls.map fun r => b r * r.2.2).sum - (ls.map fun r => c r * r.2.2).sum - (ls.map fun r => d r * r.2.2).sum = 2 * (ls.map fun r => e r * r.2.2).sum := by
  induction ls with
  | nil => rfl
  | cons r ls ih =>
    have ih := ih fun q hq => h q (List.mem_cons_of_mem _ hq)
    have h0 := h r List.mem_cons_self
    simp only [List.map_cons, List.sum_cons]
    have : (a r + b r - c r - d r) * r.2.2 = 2 * e r * r.2.2 := by rw [h0]
    have e1 : (a r + b r - c r - d r) * r.2.2 = a r * r.2.2 + b r * r.2.2 - c r * r.2.2 - d r * r.2.2 := by rw [Int.sub_mul, Int.sub_mul, Int.add_mul]
    have e2 : 2 * e r * r.2.2 = 2 * (e r * r.2.2) := Int.mul_assoc ..
    omega
theorem mem_rng {p i : Int} (h0 : 0 ≤ i) (h1 : i < p) : i ∈ rng p := List.mem_map.mpr ⟨i.toNat, List.mem_range.mpr (by omega), by omega⟩
structure PairOk (p : Int) (ls : List Lk) (A B : List Int) : Prop where
  a : GoodFence p A
  b : GoodFence p B
  both : ft A B = [] ∨ GoodFence p (ft A B)
  first : fn A B = [] ∨ GoodFence p (fn A B)
  second : fn B A = [] ∨ GoodFence p (fn B A)
  every : srtI (fn A B ++ B) = [] ∨ GoodFence p (srtI (fn A B ++ B))
  len : (fn A B).length + B.length ≤ 100
  one : crossV ls A + crossV ls B - crossV ls (ft A B) - crossV ls (srtI (fn A B ++ B)) = 2 * betweenV ls (fn A B) (fn B A)
  two : crossV ls A + crossV ls B - crossV ls (fn A B) - crossV ls (fn B A) = 2 * betweenV ls (ft A B) (fz p A B)
theorem pairs_ok {p : Int} {ls : List Lk} (hp : p ∈ ([2, 3, 4, 5] : List Int)) (g : GoodNet p ls) : (fences p).length ≤ 100 ∧ ∀ A ∈ fences p, ∀ B ∈ fences p, PairOk p ls A B := by
  have c := chk_ok p hp
  simp only [chk, Bool.and_eq_true, List.all_eq_true, decide_eq_true_eq] at c
  refine ⟨c.1, fun A hA B hB => ?_⟩
  have cA := c.2 A hA
  have cB := c.2 B hB
  have cc := cA.2 B hB
  obtain ⟨⟨⟨⟨⟨c1, c2⟩, c3⟩, c4⟩, c5⟩, c6⟩ := cc
  have pt : ∀ r ∈ ls, pairOk A B p r.1 r.2.1 = true := fun r hr => by
    have gl := g.good r hr
    simp only [goodLk, Bool.and_eq_true, decide_eq_true_eq] at gl
    exact c6 r.1 (mem_rng (by omega) (by omega)) r.2.1 (mem_rng (by omega) (by omega))
  simp only [pairOk, Bool.and_eq_true, decide_eq_true_eq] at pt
  refine ⟨isF_of cA.1, isF_of cB.1, isF0_of c1, isF0_of c2, isF0_of c3, isF0_of c4, c5, ?_, ?_⟩
  · rw [cross_sum, cross_sum, cross_sum, cross_sum, bt_sum]
    exact sum_id fun r hr => (pt r hr).1
  · rw [cross_sum, cross_sum, cross_sum, cross_sum, bt_sum]
    exact sum_id fun r hr => (pt r hr).2
end K03

namespace K03
open PySem PySem.Spec L2 Ws

def body : List CS := [.asg (.nm 8) (.bi .tuple [(.comp (.var 14) (.nm 14) (.seq (.var 6)) (some (.cmp .mem (.var 14) (.var 7))) [("point", 14)])]), .asg (.nm 9) (.bi .tuple [(.comp (.var 14) (.nm 14) (.seq (.var 6)) (some (.cmp .nmem (.var 14) (.var 7))) [("point", 14)])]), .asg (.nm 10) (.bi .tuple [(.comp (.var 14) (.nm 14) (.seq (.var 7)) (some (.cmp .nmem (.var 14) (.var 6))) [("point", 14)])]), .asg (.nm 11) (.bi .tuple [(.comp (.var 14) (.nm 14) (.rng1 (.var 2)) (some (.and (.cmp .nmem (.var 14) (.var 6)) (.cmp .nmem (.var 14) (.var 7)))) [("point", 14)])]), .asg (.nm 12) (.bi .tuple [(.bi .sorted [(.bin .add (.var 9) (.var 7))])]), .asg (.nm 13) (.bin .add (.call "width" [(.var 4), (.var 6)]) (.call "width" [(.var 4), (.var 7)])), .ife (.cmp .ne (.bin .sub (.bin .sub (.var 13) (.call "_law_width" [(.var 4), (.var 8)])) (.call "_law_width" [(.var 4), (.var 12)])) (.bin .mul (.int 2) (.call "_law_between" [(.var 3), (.var 9), (.var 10)]))) [.ret (.bl false)] [], .ife (.cmp .ne (.bin .sub (.bin .sub (.var 13) (.call "_law_width" [(.var 4), (.var 9)])) (.call "_law_width" [(.var 4), (.var 10)])) (.bin .mul (.int 2) (.call "_law_between" [(.var 3), (.var 8), (.var 11)]))) [.ret (.bl false)] []]
theorem c_law_eq : c_law = [
  .asg (.nm 2) (.bin .add (.int 2) (.call "_law_next" [(.var 1), (.int 4)])),
  .asg (.nm 3) (.call "_law_links" [(.var 1), (.var 2), (.call "_law_pick" [(.var 1), (.lst [(.int 1), (.int 2), (.int 3)])]), (.int 15), (.int 6)]),
  .asg (.nm 4) (.tup [(.var 2), (.var 3)]),
  .asg (.nm 5) (.call "_law_fences" [(.var 2)]),
  .for_ (.nm 6) (.seq (.var 5)) [.for_ (.nm 7) (.seq (.var 5)) body],
  .ret (.bl true)] := rfl
def LawFencesOk (φ : Fn) : Prop := ∀ p ∈ ([2, 3, 4, 5] : List Int), ∀ S, φ [.int p] S = some (.ret (.lst ((fences p).map ptsV)), S)
theorem lawFences_ok {T : Tbl} : LawFencesOk (evF T 4 P.c__law_fences) := by
  intro p hp S
  simp only [List.mem_cons, List.not_mem_nil, or_false] at hp
  rcases hp with rfl | rfl | rfl | rfl
  · exact lf2
  · exact lf3
  · exact lf4
  · exact lf5
structure Tk (T : Tbl) : Prop where
  nx : ∃ φ, T.fn "_law_next" = some (2, φ) ∧ NextOk φ
  pk : ∃ φ, T.fn "_law_pick" = some (2, φ) ∧ PickOk φ
  ln : ∃ φ, T.fn "_law_links" = some (5, φ) ∧ DrawOk φ
  fe : ∃ φ, T.fn "_law_fences" = some (1, φ) ∧ LawFencesOk φ
  wi : ∃ φ, T.fn "width" = some (2, φ) ∧ WidthOk φ
  lw : ∃ φ, T.fn "_law_width" = some (2, φ) ∧ LawWidthOk φ
  bw : ∃ φ, T.fn "_law_between" = some (3, φ) ∧ BetweenOk φ
theorem len_le {A : List Int} {p : Int} (h : GoodFence p A) (hp : p ≤ 7) : (A.map PV.int).length ≤ LIM := by rw [List.length_map]; have := h.lt; unfold LIM; omega
theorem turn_ok {T : Tbl} (H : Tk T) {p : Int} {ls : List Lk} {A B : List Int} {S : Strm} {rows : PV} {o7 o8 o9 o10 o11 o12 o13 o14 : Option PV} (g : GoodNet p ls) (h : PairOk p ls A B) :
    ∃ x8 x9 x10 x11 x12 x13, bodyF T 58 (.nm 7) body (.tup (B.map .int)) [none, some .stm, some (.int p), some (.tup (ls.map lk)), some (netV p ls), some rows, some (.tup (A.map .int)), o7, o8, o9, o10, o11, o12, o13, o14] S =
      some (.nx [none, some .stm, some (.int p), some (.tup (ls.map lk)), some (netV p ls), some rows, some (.tup (A.map .int)), some (.tup (B.map .int)), x8, x9, x10, x11, x12, x13, o14], S) := by
  obtain ⟨φw, ew, hw⟩ := H.wi
  obtain ⟨φl, el, hl⟩ := H.lw
  obtain ⟨φb, eb, hb⟩ := H.bw
  have p7 : p ≤ 1000000 := by have := g.hi; omega
  have p0 : -1000000 ≤ p := by have := g.lo; omega
  have lA := len_le h.a g.hi
  have lB := len_le h.b g.hi
  have lr : (rangeV 0 p).length ≤ LIM := by rw [rangeV_len]; unfold LIM; omega
  have w : ∀ (D : List Int), GoodFence p D → ∀ S, φw [netV p ls, .tup (D.map .int)] S = some (.ret (.int (crossV ls D)), S) := fun D hD S => hw _ _ _ _ g hD
  have l : ∀ (D : List Int), (D = [] ∨ GoodFence p D) → ∀ S, φl [netV p ls, .tup (D.map .int)] S = some (.ret (.int (crossV ls D)), S) := fun D hD S => hl _ _ _ _ g hD
  have b : ∀ (D E : List Int) S, φb [.tup (ls.map lk), .tup (D.map .int), .tup (E.map .int)] S = some (.ret (.int (betweenV ls D E)), S) := fun D E S => hb _ _ _ _ (by have := g.len; omega)
  have on : (netV p ls).isOwn = false := rfl
  have tn : (netV p ls).thaw = netV p ls := rfl
  have sl2 : ∀ i : Int, binV .mul (.int 2) (.int i) = some (.int (2 * i)) := fun i => by rw [mul_int, show sml 2 = true by decide]; rfl
  have c1 : ∀ (e : Ws.Env), e = [none, some .stm, some (.int p), some (.tup (ls.map lk)), some (netV p ls), some rows, some (.tup (A.map .int)), some (.tup (B.map .int)), o8, o9, o10, o11, o12, o13, none] →
      compL (stepV (fun e env S => evE T 58 e env S) (.var 14) (.nm 14) (some (.cmp .mem (.var 14) (.var 7))) e) (A.map .int) S = some ((ft A B).map .int, S) := fun e he => comp_in (n := 56) rfl (by rw [he]; show 14 < 15; decide) (by decide) (by rw [he]; rfl)
  have c2 : ∀ (x8 : Option PV) (e : Ws.Env), e = [none, some .stm, some (.int p), some (.tup (ls.map lk)), some (netV p ls), some rows, some (.tup (A.map .int)), some (.tup (B.map .int)), x8, o9, o10, o11, o12, o13, none] →
      compL (stepV (fun e env S => evE T 58 e env S) (.var 14) (.nm 14) (some (.cmp .nmem (.var 14) (.var 7))) e) (A.map .int) S = some ((K03.fn A B).map .int, S) := fun x8 e he => comp_nin (n := 56) rfl (by rw [he]; show 14 < 15; decide) (by decide) (by rw [he]; rfl)
  have c3 : ∀ (x8 x9 : Option PV) (e : Ws.Env), e = [none, some .stm, some (.int p), some (.tup (ls.map lk)), some (netV p ls), some rows, some (.tup (A.map .int)), some (.tup (B.map .int)), x8, x9, o10, o11, o12, o13, none] →
      compL (stepV (fun e env S => evE T 58 e env S) (.var 14) (.nm 14) (some (.cmp .nmem (.var 14) (.var 6))) e) (B.map .int) S = some ((K03.fn B A).map .int, S) := fun x8 x9 e he => comp_nin (n := 56) rfl (by rw [he]; show 14 < 15; decide) (by decide) (by rw [he]; rfl)
  have c4 : ∀ (x8 x9 x10 : Option PV) (e : Ws.Env), e = [none, some .stm, some (.int p), some (.tup (ls.map lk)), some (netV p ls), some rows, some (.tup (A.map .int)), some (.tup (B.map .int)), x8, x9, x10, o11, o12, o13, none] →
      compL (stepV (fun e env S => evE T 58 e env S) (.var 14) (.nm 14) (some (.and (.cmp .nmem (.var 14) (.var 6)) (.cmp .nmem (.var 14) (.var 7)))) e) (rangeV 0 p) S = some ((fz p A B).map .int, S) := fun x8 x9 x10 e he => by
    rw [rangeV_ints]
    exact comp_nin2 (n := 55) rfl (by rw [he]; show 14 < 15; decide) (by decide) (by decide) (by rw [he]; rfl) (by rw [he]; rfl)
  have la : ((K03.fn A B).map PV.int).length + (B.map PV.int).length ≤ LIM := by rw [List.length_map, List.length_map]; have := h.len; unfold LIM; exact Nat.le_trans this (by decide)
  have i1 : decide (crossV ls A + crossV ls B - crossV ls (ft A B) - crossV ls (srtI (K03.fn A B ++ B)) = 2 * betweenV ls (K03.fn A B) (K03.fn B A)) = true := decide_eq_true h.one
  have i2 : decide (crossV ls A + crossV ls B - crossV ls (K03.fn A B) - crossV ls (K03.fn B A) = 2 * betweenV ls (ft A B) (fz p A B)) = true := decide_eq_true h.two
  refine ⟨some (.tup ((ft A B).map .int)), some (.tup ((K03.fn A B).map .int)), some (.tup ((K03.fn B A).map .int)), some (.tup ((fz p A B).map .int)), some (.tup ((srtI (K03.fn A B ++ B)).map .int)), some (.int (crossV ls A + crossV ls B)), ?_⟩
  unfold body
  simp only [evF_end, end_nx, end_rt, FU, e_non, e_bl, e_int, e_str, e_ty, e_var, getV_some, e_glo, e_tup, e_lst, e_bin, e_neg, negV_int, e_not, e_and, e_or, andV_bl, orV_bl, and_pure, or_pure, e_cmp, e_chain, e_ite, e_idx, e_sli, e_gcd, gcdV_int, e_call, callR_ret, e_bi, e_comp, l_nil, l_cons, s_nil, s_cons, then_nx, then_rt, turn_eq, ife_t, ife_f, ifeG_eq, c_asg, c_ret, c_retO, c_exp, c_ife, c_for, c_asgO, c_app, c_sset, g0, gS, st0, stS, thaw_tup, thaw_lst, thaw_own, thaw_int, thaw_bl, thaw_str, thaw_non, thaw_stm, own_tup, own_lst, own_own, own_int, own_bl, own_str, own_non, own_ty, own_stm, tru_bl, tru_int, seq_tup, seq_lst, seq_own, lst_lst, lst_own, add_int, sub_int, eq_int, ne_int, lt_int', le_int', gt_int', ge_int', ne_bl, eq_bl, idx_tup, idx_lst, idx_own, len_1, all_1, any_1, sum_1, tuple_1, list_1, sorted_1, int_1, abs_1, type_1, bind_nm, bind_tp, bind_tpl, min1_1, max1_1, mind_1, min2_1, max2_1, it_enum, enumB_lst, c_par, it_seq, it_rng1, it_rng2, rngA_int, rngB_int, it_zip, zip_tup, zip_lst, par_none, par_some, parB_int, sli_tup, sli_lst, step_none, step_some, wipe_nil, wipe_cons, List.map_cons, List.map_nil, List.length_cons, len_nil, List.all_cons, List.all_nil, List.replicate, List.cons_append, List.nil_append, List.append_nil, List.zip_cons_cons, List.zip_nil_right, List.foldl_cons, List.foldl_nil, eq_self, Option.bind_some, Option.map_some, Bool.not_false, Bool.not_true, Bool.true_and, Bool.and_true, Bool.false_and, Bool.and_false, Bool.or_true, Bool.true_or, Bool.or_false, Bool.false_or, if_true, Bool.false_eq_true, if_false, Nat.sub_self, Nat.reduceAdd, Nat.reduceSub, Nat.reduceEqDiff, ite_true, ite_false, Nat.reduceLeDiff, body_eq, lA, lB, lr, inR_small p0 p7, c1 _ rfl, c2 _ _ rfl, c3 _ _ _ rfl, c4 _ _ _ _ rfl, add_tup, la, ← List.map_append, srt_ints, ew, w A h.a, w B h.b, on, tn, el, l (ft A B) h.both, l (srtI (K03.fn A B ++ B)) h.every, l (K03.fn A B) h.first, l (K03.fn B A) h.second, eb, b, sl2, i1, i2]

theorem inner_ok {T : Tbl} (H : Tk T) {p : Int} {ls : List Lk} {A : List Int} {S : Strm} {rows : PV} {L : List (List Int)} (g : GoodNet p ls) (h : ∀ B ∈ L, PairOk p ls A B) {o7 o8 o9 o10 o11 o12 o13 o14 : Option PV} :
    ∃ x7 x8 x9 x10 x11 x12 x13, forL (bodyF T 58 (.nm 7) body) (L.map ptsV) [none, some .stm, some (.int p), some (.tup (ls.map lk)), some (netV p ls), some rows, some (.tup (A.map .int)), o7, o8, o9, o10, o11, o12, o13, o14] S =
      some (.nx [none, some .stm, some (.int p), some (.tup (ls.map lk)), some (netV p ls), some rows, some (.tup (A.map .int)), x7, x8, x9, x10, x11, x12, x13, o14], S) := by
  induction L generalizing o7 o8 o9 o10 o11 o12 o13 with
  | nil => exact ⟨_, _, _, _, _, _, _, rfl⟩
  | cons B L ih =>
    obtain ⟨x8, x9, x10, x11, x12, x13, e⟩ := turn_ok H (S := S) (rows := rows) (o7 := o7) (o8 := o8) (o9 := o9) (o10 := o10) (o11 := o11) (o12 := o12) (o13 := o13) (o14 := o14) g (h B List.mem_cons_self)
    obtain ⟨y7, y8, y9, y10, y11, y12, y13, e2⟩ := ih (fun D hD => h D (List.mem_cons_of_mem _ hD)) (o7 := some (.tup (B.map .int))) (o8 := x8) (o9 := x9) (o10 := x10) (o11 := x11) (o12 := x12) (o13 := x13)
    refine ⟨y7, y8, y9, y10, y11, y12, y13, ?_⟩
    rw [List.map_cons, forL, show ptsV B = .tup (B.map .int) from rfl, e, Option.bind_some]
    exact e2
theorem outer_ok {T : Tbl} (H : Tk T) {p : Int} {ls : List Lk} {S : Strm} {L M : List (List Int)} (g : GoodNet p ls) (h : ∀ A ∈ L, ∀ B ∈ M, PairOk p ls A B) {o6 o7 o8 o9 o10 o11 o12 o13 o14 : Option PV} :
    ∃ x6 x7 x8 x9 x10 x11 x12 x13, forL (bodyF T 59 (.nm 6) [.for_ (.nm 7) (.seq (.var 5)) body]) (L.map ptsV) [none, some .stm, some (.int p), some (.tup (ls.map lk)), some (netV p ls), some (.lst (M.map ptsV)), o6, o7, o8, o9, o10, o11, o12, o13, o14] S =
      some (.nx [none, some .stm, some (.int p), some (.tup (ls.map lk)), some (netV p ls), some (.lst (M.map ptsV)), x6, x7, x8, x9, x10, x11, x12, x13, o14], S) := by
  induction L generalizing o6 o7 o8 o9 o10 o11 o12 o13 with
  | nil => exact ⟨_, _, _, _, _, _, _, _, rfl⟩
  | cons A L ih =>
    obtain ⟨x7, x8, x9, x10, x11, x12, x13, e⟩ := inner_ok H (S := S) (rows := .lst (M.map ptsV)) (L := M) (A := A) (o7 := o7) (o8 := o8) (o9 := o9) (o10 := o10) (o11 := o11) (o12 := o12) (o13 := o13) (o14 := o14) g (h A List.mem_cons_self)
    obtain ⟨y6, y7, y8, y9, y10, y11, y12, y13, e2⟩ := ih (fun D hD => h D (List.mem_cons_of_mem _ hD)) (o6 := some (.tup (A.map .int))) (o7 := x7) (o8 := x8) (o9 := x9) (o10 := x10) (o11 := x11) (o12 := x12) (o13 := x13)
    refine ⟨y6, y7, y8, y9, y10, y11, y12, y13, ?_⟩
    have t : bodyF T 59 (.nm 6) [.for_ (.nm 7) (.seq (.var 5)) body] (.tup (A.map .int)) [none, some .stm, some (.int p), some (.tup (ls.map lk)), some (netV p ls), some (.lst (M.map ptsV)), o6, o7, o8, o9, o10, o11, o12, o13, o14] S =
        some (.nx [none, some .stm, some (.int p), some (.tup (ls.map lk)), some (netV p ls), some (.lst (M.map ptsV)), some (.tup (A.map .int)), x7, x8, x9, x10, x11, x12, x13, o14], S) := by
      simp only [evF_end, end_nx, end_rt, FU, e_non, e_bl, e_int, e_str, e_ty, e_var, getV_some, e_glo, e_tup, e_lst, e_bin, e_neg, negV_int, e_not, e_and, e_or, andV_bl, orV_bl, and_pure, or_pure, e_cmp, e_chain, e_ite, e_idx, e_sli, e_gcd, gcdV_int, e_call, callR_ret, e_bi, e_comp, l_nil, l_cons, s_nil, s_cons, then_nx, then_rt, turn_eq, ife_t, ife_f, ifeG_eq, c_asg, c_ret, c_retO, c_exp, c_ife, c_for, c_asgO, c_app, c_sset, g0, gS, st0, stS, thaw_tup, thaw_lst, thaw_own, thaw_int, thaw_bl, thaw_str, thaw_non, thaw_stm, own_tup, own_lst, own_own, own_int, own_bl, own_str, own_non, own_ty, own_stm, tru_bl, tru_int, seq_tup, seq_lst, seq_own, lst_lst, lst_own, add_int, sub_int, eq_int, ne_int, lt_int', le_int', gt_int', ge_int', ne_bl, eq_bl, idx_tup, idx_lst, idx_own, len_1, all_1, any_1, sum_1, tuple_1, list_1, sorted_1, int_1, abs_1, type_1, bind_nm, bind_tp, bind_tpl, min1_1, max1_1, mind_1, min2_1, max2_1, it_enum, enumB_lst, c_par, it_seq, it_rng1, it_rng2, rngA_int, rngB_int, it_zip, zip_tup, zip_lst, par_none, par_some, parB_int, sli_tup, sli_lst, step_none, step_some, wipe_nil, wipe_cons, List.map_cons, List.map_nil, List.length_cons, len_nil, List.all_cons, List.all_nil, List.replicate, List.cons_append, List.nil_append, List.append_nil, List.zip_cons_cons, List.zip_nil_right, List.foldl_cons, List.foldl_nil, eq_self, Option.bind_some, Option.map_some, Bool.not_false, Bool.not_true, Bool.true_and, Bool.and_true, Bool.false_and, Bool.and_false, Bool.or_true, Bool.true_or, Bool.or_false, Bool.false_or, if_true, Bool.false_eq_true, if_false, Nat.sub_self, Nat.reduceAdd, Nat.reduceSub, Nat.reduceEqDiff, ite_true, ite_false, Nat.reduceLeDiff, body_eq, e]
    rw [List.map_cons, forL, show ptsV A = .tup (A.map .int) from rfl, t, Option.bind_some]
    exact e2
theorem fences_pl {p : Int} : PV.pls ((fences p).map ptsV) = true := pls_of fun x h => by obtain ⟨A, _, rfl⟩ := List.mem_map.mp h; exact pts_pl
theorem rest_ok {T : Tbl} (H : Tk T) : RestOk T 13 c_law := by
  intro scr _
  have s0 : SOk (some (scr, 0, 0)) := ⟨scr, 0, 0, rfl, by decide⟩
  obtain ⟨φn, en, hn⟩ := H.nx
  obtain ⟨φk, ek, hk⟩ := H.pk
  obtain ⟨φd, ed, hd⟩ := H.ln
  obtain ⟨φf, ef, hf⟩ := H.fe
  obtain ⟨d, S1, n1, n2, n3, s1⟩ := hn _ 4 s0 (by decide) (by decide)
  obtain ⟨sh, S2, k1, k2, s2⟩ := hk S1 [.int 1, .int 2, .int 3] s1 (by simp [PV.pls, PV.pl]) (by simp) (by show 3 ≤ 1000000; decide)
  obtain ⟨i, rfl, hi0, hi1⟩ : ∃ i : Int, sh = .int i ∧ 0 < i ∧ i < 1073741824 := by
    simp only [List.mem_cons, List.not_mem_nil, or_false] at k2
    rcases k2 with rfl | rfl | rfl
    · exact ⟨1, rfl, by decide, by decide⟩
    · exact ⟨2, rfl, by decide, by decide⟩
    · exact ⟨3, rfl, by decide, by decide⟩
  obtain ⟨ls, S3, d1, d2, s3⟩ := hd S2 (2 + d) i 15 6 s2 (by omega) (by omega) hi0 hi1 (by decide) (by decide) (by decide) (by decide)
  have hp : 2 + d ∈ ([2, 3, 4, 5] : List Int) := by
    simp only [List.mem_cons, List.not_mem_nil, or_false]
    omega
  have g : GoodNet (2 + d) ls := ⟨by omega, by omega, by have := d2.len; omega, d2.good, d2.asc⟩
  have f1 := hf _ hp S3
  obtain ⟨hl, hall⟩ := pairs_ok hp g
  obtain ⟨x6, x7, x8, x9, x10, x11, x12, x13, lp⟩ := outer_ok H (S := S3) (L := fences (2 + d)) (M := fences (2 + d)) (o6 := none) (o7 := none) (o8 := none) (o9 := none) (o10 := none) (o11 := none) (o12 := none) (o13 := none) (o14 := none) g hall
  refine ⟨S3, ?_⟩
  rw [c_law_eq]
  unfold netV at lp
  have q2 : decide (2 ≤ LIM) = true := by decide
  simp only [evF_end, end_nx, end_rt, FU, e_non, e_bl, e_int, e_str, e_ty, e_var, getV_some, e_glo, e_tup, e_lst, e_bin, e_neg, negV_int, e_not, e_and, e_or, andV_bl, orV_bl, and_pure, or_pure, e_cmp, e_chain, e_ite, e_idx, e_sli, e_gcd, gcdV_int, e_call, callR_ret, e_bi, e_comp, l_nil, l_cons, s_nil, s_cons, then_nx, then_rt, turn_eq, ife_t, ife_f, ifeG_eq, c_asg, c_ret, c_retO, c_exp, c_ife, c_for, c_asgO, c_app, c_sset, g0, gS, st0, stS, thaw_tup, thaw_lst, thaw_own, thaw_int, thaw_bl, thaw_str, thaw_non, thaw_stm, own_tup, own_lst, own_own, own_int, own_bl, own_str, own_non, own_ty, own_stm, tru_bl, tru_int, seq_tup, seq_lst, seq_own, lst_lst, lst_own, add_int, sub_int, eq_int, ne_int, lt_int', le_int', gt_int', ge_int', ne_bl, eq_bl, idx_tup, idx_lst, idx_own, len_1, all_1, any_1, sum_1, tuple_1, list_1, sorted_1, int_1, abs_1, type_1, bind_nm, bind_tp, bind_tpl, min1_1, max1_1, mind_1, min2_1, max2_1, it_enum, enumB_lst, c_par, it_seq, it_rng1, it_rng2, rngA_int, rngB_int, it_zip, zip_tup, zip_lst, par_none, par_some, parB_int, sli_tup, sli_lst, step_none, step_some, wipe_nil, wipe_cons, List.map_cons, List.map_nil, List.length_cons, len_nil, List.all_cons, List.all_nil, List.replicate, List.cons_append, List.nil_append, List.append_nil, List.zip_cons_cons, List.zip_nil_right, List.foldl_cons, List.foldl_nil, eq_self, Option.bind_some, Option.map_some, Bool.not_false, Bool.not_true, Bool.true_and, Bool.and_true, Bool.false_and, Bool.and_false, Bool.or_true, Bool.true_or, Bool.or_false, Bool.false_or, if_true, Bool.false_eq_true, if_false, Nat.sub_self, Nat.reduceAdd, Nat.reduceSub, Nat.reduceEqDiff, ite_true, ite_false, Nat.reduceLeDiff, en, n1, callR_flat (x := .int d) rfl (isO s0), ek, k1, callR_flat (x := .int i) rfl (isO s1), lim3, ed, d1, ef, f1, q2, lp]
end K03

namespace K03
open PySem PySem.Spec PyProof.Rows L2 Ws
def T0 : Tbl := { fn := fun _ => none, glo := fun x => if x = "LEAST_POINTS" then some 2 else if x = "MOST_POINTS" then some 7 else if x = "MOST_ROADS" then some 15 else if x = "MOST_WIDTH" then some 6 else none }
def f__law_next : Fn := evF T0 5 P.c__law_next
def T1 : Tbl := T0.add "_law_next" 2 f__law_next
def f__law_pick : Fn := evF T1 2 P.c__law_pick
def T2 : Tbl := T1.add "_law_pick" 2 f__law_pick
def f__law_links : Fn := evF T2 8 P.c__law_links
def T3 : Tbl := T2.add "_law_links" 5 f__law_links
def f__law_fences : Fn := evF T3 4 P.c__law_fences
def T4 : Tbl := T3.add "_law_fences" 1 f__law_fences
def f_is_tuple : Fn := evF T4 3 P.c_is_tuple
def T5 : Tbl := T4.add "is_tuple" 3 f_is_tuple
def f_is_within : Fn := evF T5 3 P.c_is_within
def T6 : Tbl := T5.add "is_within" 3 f_is_within
def f_is_pair : Fn := evF T6 4 P.c_is_pair
def T7 : Tbl := T6.add "is_pair" 2 f_is_pair
def f_is_link : Fn := evF T7 3 P.c_is_link
def T8 : Tbl := T7.add "is_link" 3 f_is_link
def f_is_ascending : Fn := evF T8 3 P.c_is_ascending
def T9 : Tbl := T8.add "is_ascending" 1 f_is_ascending
def f_are_links : Fn := evF T9 5 P.c_are_links
def T10 : Tbl := T9.add "are_links" 4 f_are_links
def f_is_net : Fn := evF T10 3 P.c_is_net
def T11 : Tbl := T10.add "is_net" 1 f_is_net
def f_need_net : Fn := evF T11 1 P.c_need_net
def T12 : Tbl := T11.add "need_net" 1 f_need_net
def f_are_rising : Fn := evF T12 4 P.c_are_rising
def T13 : Tbl := T12.add "are_rising" 3 f_are_rising
def f_are_some : Fn := evF T13 3 P.c_are_some
def T14 : Tbl := T13.add "are_some" 3 f_are_some
def f_is_fence : Fn := evF T14 2 P.c_is_fence
def T15 : Tbl := T14.add "is_fence" 2 f_is_fence
def f_need_fence : Fn := evF T15 2 P.c_need_fence
def T16 : Tbl := T15.add "need_fence" 2 f_need_fence
def f_is_parted : Fn := evF T16 3 P.c_is_parted
def T17 : Tbl := T16.add "is_parted" 3 f_is_parted
def f_crossing : Fn := evF T17 5 P.c_crossing
def T18 : Tbl := T17.add "crossing" 2 f_crossing
def f_width : Fn := evF T18 2 P.c_width
def T19 : Tbl := T18.add "width" 2 f_width
def f__law_width : Fn := evF T19 2 P.c__law_width
def T20 : Tbl := T19.add "_law_width" 2 f__law_width
def f__law_between : Fn := evF T20 5 P.c__law_between
def T21 : Tbl := T20.add "_law_between" 3 f__law_between
theorem d__law_pick__law_next : T1.fn "_law_next" = some (2, f__law_next) := by kernel_rfl
theorem d__law_links__law_next : T2.fn "_law_next" = some (2, f__law_next) := by kernel_rfl
theorem d_is_pair_is_tuple : T6.fn "is_tuple" = some (3, f_is_tuple) := by kernel_rfl
theorem d_is_pair_is_within : T6.fn "is_within" = some (3, f_is_within) := by kernel_rfl
theorem d_is_link_is_within : T7.fn "is_within" = some (3, f_is_within) := by kernel_rfl
theorem d_is_link_is_pair : T7.fn "is_pair" = some (2, f_is_pair) := by kernel_rfl
theorem d_is_link_is_tuple : T7.fn "is_tuple" = some (3, f_is_tuple) := by kernel_rfl
theorem d_are_links_is_tuple : T9.fn "is_tuple" = some (3, f_is_tuple) := by kernel_rfl
theorem d_are_links_is_link : T9.fn "is_link" = some (3, f_is_link) := by kernel_rfl
theorem d_are_links_is_ascending : T9.fn "is_ascending" = some (1, f_is_ascending) := by kernel_rfl
theorem d_is_net_is_tuple : T10.fn "is_tuple" = some (3, f_is_tuple) := by kernel_rfl
theorem d_is_net_are_links : T10.fn "are_links" = some (4, f_are_links) := by kernel_rfl
theorem d_is_net_is_within : T10.fn "is_within" = some (3, f_is_within) := by kernel_rfl
theorem g_is_net_LEAST_POINTS : T10.glo "LEAST_POINTS" = some 2 := by kernel_rfl
theorem g_is_net_MOST_POINTS : T10.glo "MOST_POINTS" = some 7 := by kernel_rfl
theorem g_is_net_MOST_ROADS : T10.glo "MOST_ROADS" = some 15 := by kernel_rfl
theorem g_is_net_MOST_WIDTH : T10.glo "MOST_WIDTH" = some 6 := by kernel_rfl
theorem d_need_net_is_net : T11.fn "is_net" = some (1, f_is_net) := by kernel_rfl
theorem d_are_rising_is_ascending : T12.fn "is_ascending" = some (1, f_is_ascending) := by kernel_rfl
theorem d_are_rising_is_within : T12.fn "is_within" = some (3, f_is_within) := by kernel_rfl
theorem d_are_some_are_rising : T13.fn "are_rising" = some (3, f_are_rising) := by kernel_rfl
theorem d_are_some_is_tuple : T13.fn "is_tuple" = some (3, f_is_tuple) := by kernel_rfl
theorem d_is_fence_need_net : T14.fn "need_net" = some (1, f_need_net) := by kernel_rfl
theorem d_is_fence_are_some : T14.fn "are_some" = some (3, f_are_some) := by kernel_rfl
theorem d_need_fence_is_fence : T15.fn "is_fence" = some (2, f_is_fence) := by kernel_rfl
theorem d_crossing_is_parted : T17.fn "is_parted" = some (3, f_is_parted) := by kernel_rfl
theorem d_width_need_fence : T18.fn "need_fence" = some (2, f_need_fence) := by kernel_rfl
theorem d_width_crossing : T18.fn "crossing" = some (2, f_crossing) := by kernel_rfl
theorem d__law_width_width : T19.fn "width" = some (2, f_width) := by kernel_rfl
theorem d_law__law_next : T21.fn "_law_next" = some (2, f__law_next) := by kernel_rfl
theorem d_law__law_pick : T21.fn "_law_pick" = some (2, f__law_pick) := by kernel_rfl
theorem d_law__law_links : T21.fn "_law_links" = some (5, f__law_links) := by kernel_rfl
theorem d_law__law_fences : T21.fn "_law_fences" = some (1, f__law_fences) := by kernel_rfl
theorem d_law_width : T21.fn "width" = some (2, f_width) := by kernel_rfl
theorem d_law__law_width : T21.fn "_law_width" = some (2, f__law_width) := by kernel_rfl
theorem d_law__law_between : T21.fn "_law_between" = some (3, f__law_between) := by kernel_rfl
end K03

namespace K03
open PySem PySem.Spec PyProof.Rows L2 Ws
abbrev TT : Tbl := T21
abbrev LV : Nat := 22
theorem ok__law_next : NextOk f__law_next := next_ok
theorem ok__law_pick : PickOk f__law_pick := pick_ok ⟨_, d__law_pick__law_next, ok__law_next⟩
theorem ok__law_links : DrawOk f__law_links := draw_ok ⟨_, d__law_links__law_next, ok__law_next⟩
theorem ok__law_fences : LawFencesOk f__law_fences := lawFences_ok
theorem ok_is_tuple : IsTupOk f_is_tuple := istup_ok
theorem ok_is_within : WithinOk f_is_within := within_ok
theorem ok_is_pair : IsPairOk f_is_pair := pair_ok ⟨⟨_, d_is_pair_is_within, ok_is_within⟩, ⟨_, d_is_pair_is_tuple, ok_is_tuple⟩⟩
theorem ok_is_link : LinkOk f_is_link := link_ok { w := ⟨_, d_is_link_is_within, ok_is_within⟩, t := ⟨_, d_is_link_is_tuple, ok_is_tuple⟩, p := ⟨_, d_is_link_is_pair, ok_is_pair⟩ }
theorem ok_is_ascending : AscOk f_is_ascending := asc_ok
theorem ok_are_links : LinksOk f_are_links := links_ok { w := ⟨f_is_within, by kernel_rfl, ok_is_within⟩, t := ⟨_, d_are_links_is_tuple, ok_is_tuple⟩, l := ⟨_, d_are_links_is_link, ok_is_link⟩, a := ⟨_, d_are_links_is_ascending, ok_is_ascending⟩ }
theorem ok_is_net : NetOk f_is_net := net_ok { w := ⟨_, d_is_net_is_within, ok_is_within⟩, t := ⟨_, d_is_net_is_tuple, ok_is_tuple⟩, g1 := g_is_net_LEAST_POINTS, g2 := g_is_net_MOST_POINTS, g3 := g_is_net_MOST_ROADS, g4 := g_is_net_MOST_WIDTH, r := ⟨_, d_is_net_are_links, ok_are_links⟩ }
theorem ok_need_net : NeedNetOk f_need_net := needNet_ok ⟨_, d_need_net_is_net, ok_is_net⟩
theorem ok_are_rising : RisingOk f_are_rising := rising_ok { w := ⟨f_is_within, by kernel_rfl, ok_is_within⟩, a := ⟨f_is_ascending, by kernel_rfl, ok_is_ascending⟩ }
theorem ok_are_some : SomeOk f_are_some := some_ok { t := ⟨_, d_are_some_is_tuple, ok_is_tuple⟩, r := ⟨_, d_are_some_are_rising, ok_are_rising⟩ }
theorem ok_is_fence : FenceOk f_is_fence := fence_ok ⟨_, d_is_fence_need_net, ok_need_net⟩ ⟨_, d_is_fence_are_some, ok_are_some⟩
theorem ok_need_fence : NeedFenceOk f_need_fence := needFence_ok ⟨_, d_need_fence_is_fence, ok_is_fence⟩
theorem ok_is_parted : PartedOk f_is_parted := parted_ok
theorem ok_crossing : CrossOk f_crossing := cross_ok ⟨_, d_crossing_is_parted, ok_is_parted⟩
theorem ok_width : WidthOk f_width := width_ok ⟨_, d_width_need_fence, ok_need_fence⟩ ⟨_, d_width_crossing, ok_crossing⟩
theorem ok__law_width : LawWidthOk f__law_width := lawWidth_ok ⟨_, d__law_width_width, ok_width⟩
theorem ok__law_between : BetweenOk f__law_between := between_ok
theorem tk : Tk TT := ⟨⟨_, d_law__law_next, ok__law_next⟩, ⟨_, d_law__law_pick, ok__law_pick⟩, ⟨_, d_law__law_links, ok__law_links⟩, ⟨_, d_law__law_fences, ok__law_fences⟩, ⟨_, d_law_width, ok_width⟩, ⟨_, d_law__law_width, ok__law_width⟩, ⟨_, d_law__law_between, ok__law_between⟩⟩
theorem all_mk {P : Program} {w : World} {K : PySem.W.Frag} {h : Heap} {mg : Str → Option Value} {fa : Addr} (X : K.In h) (G : h.Ns mainGlobals mg) (hfa : mg "law" = some (.ref fa))
    {p0 : Addr} {od0 an0 : Option Addr} {sl0 : Array (Option Value)} {oc0 kV0 dc0 pm0 cd0 ct0 : Value}
    {p1 : Addr} {od1 an1 : Option Addr} {sl1 : Array (Option Value)} {oc1 kV1 dc1 pm1 cd1 ct1 : Value}
    {p2 : Addr} {od2 an2 : Option Addr} {sl2 : Array (Option Value)} {oc2 kV2 dc2 pm2 cd2 ct2 : Value}
    {p3 : Addr} {od3 an3 : Option Addr} {sl3 : Array (Option Value)} {oc3 kV3 dc3 pm3 cd3 ct3 : Value}
    {p4 : Addr} {od4 an4 : Option Addr} {sl4 : Array (Option Value)} {oc4 kV4 dc4 pm4 cd4 ct4 : Value}
    {p5 : Addr} {od5 an5 : Option Addr} {sl5 : Array (Option Value)} {oc5 kV5 dc5 pm5 cd5 ct5 : Value}
    {p6 : Addr} {od6 an6 : Option Addr} {sl6 : Array (Option Value)} {oc6 kV6 dc6 pm6 cd6 ct6 : Value}
    {p7 : Addr} {od7 an7 : Option Addr} {sl7 : Array (Option Value)} {oc7 kV7 dc7 pm7 cd7 ct7 : Value}
    {p8 : Addr} {od8 an8 : Option Addr} {sl8 : Array (Option Value)} {oc8 kV8 dc8 pm8 cd8 ct8 : Value}
    {p9 : Addr} {od9 an9 : Option Addr} {sl9 : Array (Option Value)} {oc9 kV9 dc9 pm9 cd9 ct9 : Value}
    {p10 : Addr} {od10 an10 : Option Addr} {sl10 : Array (Option Value)} {oc10 kV10 dc10 pm10 cd10 ct10 : Value}
    {p11 : Addr} {od11 an11 : Option Addr} {sl11 : Array (Option Value)} {oc11 kV11 dc11 pm11 cd11 ct11 : Value}
    {p12 : Addr} {od12 an12 : Option Addr} {sl12 : Array (Option Value)} {oc12 kV12 dc12 pm12 cd12 ct12 : Value}
    {p13 : Addr} {od13 an13 : Option Addr} {sl13 : Array (Option Value)} {oc13 kV13 dc13 pm13 cd13 ct13 : Value}
    {p14 : Addr} {od14 an14 : Option Addr} {sl14 : Array (Option Value)} {oc14 kV14 dc14 pm14 cd14 ct14 : Value}
    {p15 : Addr} {od15 an15 : Option Addr} {sl15 : Array (Option Value)} {oc15 kV15 dc15 pm15 cd15 ct15 : Value}
    {p16 : Addr} {od16 an16 : Option Addr} {sl16 : Array (Option Value)} {oc16 kV16 dc16 pm16 cd16 ct16 : Value}
    {p17 : Addr} {od17 an17 : Option Addr} {sl17 : Array (Option Value)} {oc17 kV17 dc17 pm17 cd17 ct17 : Value}
    {p18 : Addr} {od18 an18 : Option Addr} {sl18 : Array (Option Value)} {oc18 kV18 dc18 pm18 cd18 ct18 : Value}
    {p19 : Addr} {od19 an19 : Option Addr} {sl19 : Array (Option Value)} {oc19 kV19 dc19 pm19 cd19 ct19 : Value}
    {p20 : Addr} {od20 an20 : Option Addr} {sl20 : Array (Option Value)} {oc20 kV20 dc20 pm20 cd20 ct20 : Value}
    {p21 : Addr} {od21 an21 : Option Addr} {sl21 : Array (Option Value)} {oc21 kV21 dc21 pm21 cd21 ct21 : Value}
    {p22 : Addr} {od22 an22 : Option Addr} {sl22 : Array (Option Value)} {oc22 kV22 dc22 pm22 cd22 ct22 : Value}
    {tk0 : Tok}
    {tk1 : Tok}
    {tk2 : Tok}
    {tk3 : Tok}
    (a0 : PySem.W.nsIn K mainGlobals "_law_next" = some (some (.ref p0))) (l0 : K.lookup p0 = some ⟨oc0, od0, .func (PySem.W.fnOf "_law_next" "_law_next" (defArgs s__law_next) (defBody s__law_next) (defScope s__law_next) .none kV0 dc0 pm0 an0 cd0 ct0), sl0⟩) (c0 : PySem.W.codeIn K cd0 "_law_next" = true) (k0 : PySem.W.keepIn K (.ref p0) = true)
    (a1 : PySem.W.nsIn K mainGlobals "_law_pick" = some (some (.ref p1))) (l1 : K.lookup p1 = some ⟨oc1, od1, .func (PySem.W.fnOf "_law_pick" "_law_pick" (defArgs s__law_pick) (defBody s__law_pick) (defScope s__law_pick) .none kV1 dc1 pm1 an1 cd1 ct1), sl1⟩) (c1 : PySem.W.codeIn K cd1 "_law_pick" = true) (k1 : PySem.W.keepIn K (.ref p1) = true)
    (a2 : PySem.W.nsIn K mainGlobals "_law_links" = some (some (.ref p2))) (l2 : K.lookup p2 = some ⟨oc2, od2, .func (PySem.W.fnOf "_law_links" "_law_links" (defArgs s__law_links) (defBody s__law_links) (defScope s__law_links) .none kV2 dc2 pm2 an2 cd2 ct2), sl2⟩) (c2 : PySem.W.codeIn K cd2 "_law_links" = true) (k2 : PySem.W.keepIn K (.ref p2) = true)
    (a3 : PySem.W.nsIn K mainGlobals "_law_fences" = some (some (.ref p3))) (l3 : K.lookup p3 = some ⟨oc3, od3, .func (PySem.W.fnOf "_law_fences" "_law_fences" (defArgs s__law_fences) (defBody s__law_fences) (defScope s__law_fences) .none kV3 dc3 pm3 an3 cd3 ct3), sl3⟩) (c3 : PySem.W.codeIn K cd3 "_law_fences" = true) (k3 : PySem.W.keepIn K (.ref p3) = true)
    (a4 : PySem.W.nsIn K mainGlobals "is_tuple" = some (some (.ref p4))) (l4 : K.lookup p4 = some ⟨oc4, od4, .func (PySem.W.fnOf "is_tuple" "is_tuple" (defArgs s_is_tuple) (defBody s_is_tuple) (defScope s_is_tuple) .none kV4 dc4 pm4 an4 cd4 ct4), sl4⟩) (c4 : PySem.W.codeIn K cd4 "is_tuple" = true) (k4 : PySem.W.keepIn K (.ref p4) = true)
    (a5 : PySem.W.nsIn K mainGlobals "is_within" = some (some (.ref p5))) (l5 : K.lookup p5 = some ⟨oc5, od5, .func (PySem.W.fnOf "is_within" "is_within" (defArgs s_is_within) (defBody s_is_within) (defScope s_is_within) .none kV5 dc5 pm5 an5 cd5 ct5), sl5⟩) (c5 : PySem.W.codeIn K cd5 "is_within" = true) (k5 : PySem.W.keepIn K (.ref p5) = true)
    (a6 : PySem.W.nsIn K mainGlobals "is_pair" = some (some (.ref p6))) (l6 : K.lookup p6 = some ⟨oc6, od6, .func (PySem.W.fnOf "is_pair" "is_pair" (defArgs s_is_pair) (defBody s_is_pair) (defScope s_is_pair) .none kV6 dc6 pm6 an6 cd6 ct6), sl6⟩) (c6 : PySem.W.codeIn K cd6 "is_pair" = true) (k6 : PySem.W.keepIn K (.ref p6) = true)
    (a7 : PySem.W.nsIn K mainGlobals "is_link" = some (some (.ref p7))) (l7 : K.lookup p7 = some ⟨oc7, od7, .func (PySem.W.fnOf "is_link" "is_link" (defArgs s_is_link) (defBody s_is_link) (defScope s_is_link) .none kV7 dc7 pm7 an7 cd7 ct7), sl7⟩) (c7 : PySem.W.codeIn K cd7 "is_link" = true) (k7 : PySem.W.keepIn K (.ref p7) = true)
    (a8 : PySem.W.nsIn K mainGlobals "is_ascending" = some (some (.ref p8))) (l8 : K.lookup p8 = some ⟨oc8, od8, .func (PySem.W.fnOf "is_ascending" "is_ascending" (defArgs s_is_ascending) (defBody s_is_ascending) (defScope s_is_ascending) .none kV8 dc8 pm8 an8 cd8 ct8), sl8⟩) (c8 : PySem.W.codeIn K cd8 "is_ascending" = true) (k8 : PySem.W.keepIn K (.ref p8) = true)
    (a9 : PySem.W.nsIn K mainGlobals "are_links" = some (some (.ref p9))) (l9 : K.lookup p9 = some ⟨oc9, od9, .func (PySem.W.fnOf "are_links" "are_links" (defArgs s_are_links) (defBody s_are_links) (defScope s_are_links) .none kV9 dc9 pm9 an9 cd9 ct9), sl9⟩) (c9 : PySem.W.codeIn K cd9 "are_links" = true) (k9 : PySem.W.keepIn K (.ref p9) = true)
    (a10 : PySem.W.nsIn K mainGlobals "is_net" = some (some (.ref p10))) (l10 : K.lookup p10 = some ⟨oc10, od10, .func (PySem.W.fnOf "is_net" "is_net" (defArgs s_is_net) (defBody s_is_net) (defScope s_is_net) .none kV10 dc10 pm10 an10 cd10 ct10), sl10⟩) (c10 : PySem.W.codeIn K cd10 "is_net" = true) (k10 : PySem.W.keepIn K (.ref p10) = true)
    (a11 : PySem.W.nsIn K mainGlobals "need_net" = some (some (.ref p11))) (l11 : K.lookup p11 = some ⟨oc11, od11, .func (PySem.W.fnOf "need_net" "need_net" (defArgs s_need_net) (defBody s_need_net) (defScope s_need_net) .none kV11 dc11 pm11 an11 cd11 ct11), sl11⟩) (c11 : PySem.W.codeIn K cd11 "need_net" = true) (k11 : PySem.W.keepIn K (.ref p11) = true)
    (a12 : PySem.W.nsIn K mainGlobals "are_rising" = some (some (.ref p12))) (l12 : K.lookup p12 = some ⟨oc12, od12, .func (PySem.W.fnOf "are_rising" "are_rising" (defArgs s_are_rising) (defBody s_are_rising) (defScope s_are_rising) .none kV12 dc12 pm12 an12 cd12 ct12), sl12⟩) (c12 : PySem.W.codeIn K cd12 "are_rising" = true) (k12 : PySem.W.keepIn K (.ref p12) = true)
    (a13 : PySem.W.nsIn K mainGlobals "are_some" = some (some (.ref p13))) (l13 : K.lookup p13 = some ⟨oc13, od13, .func (PySem.W.fnOf "are_some" "are_some" (defArgs s_are_some) (defBody s_are_some) (defScope s_are_some) .none kV13 dc13 pm13 an13 cd13 ct13), sl13⟩) (c13 : PySem.W.codeIn K cd13 "are_some" = true) (k13 : PySem.W.keepIn K (.ref p13) = true)
    (a14 : PySem.W.nsIn K mainGlobals "is_fence" = some (some (.ref p14))) (l14 : K.lookup p14 = some ⟨oc14, od14, .func (PySem.W.fnOf "is_fence" "is_fence" (defArgs s_is_fence) (defBody s_is_fence) (defScope s_is_fence) .none kV14 dc14 pm14 an14 cd14 ct14), sl14⟩) (c14 : PySem.W.codeIn K cd14 "is_fence" = true) (k14 : PySem.W.keepIn K (.ref p14) = true)
    (a15 : PySem.W.nsIn K mainGlobals "need_fence" = some (some (.ref p15))) (l15 : K.lookup p15 = some ⟨oc15, od15, .func (PySem.W.fnOf "need_fence" "need_fence" (defArgs s_need_fence) (defBody s_need_fence) (defScope s_need_fence) .none kV15 dc15 pm15 an15 cd15 ct15), sl15⟩) (c15 : PySem.W.codeIn K cd15 "need_fence" = true) (k15 : PySem.W.keepIn K (.ref p15) = true)
    (a16 : PySem.W.nsIn K mainGlobals "is_parted" = some (some (.ref p16))) (l16 : K.lookup p16 = some ⟨oc16, od16, .func (PySem.W.fnOf "is_parted" "is_parted" (defArgs s_is_parted) (defBody s_is_parted) (defScope s_is_parted) .none kV16 dc16 pm16 an16 cd16 ct16), sl16⟩) (c16 : PySem.W.codeIn K cd16 "is_parted" = true) (k16 : PySem.W.keepIn K (.ref p16) = true)
    (a17 : PySem.W.nsIn K mainGlobals "crossing" = some (some (.ref p17))) (l17 : K.lookup p17 = some ⟨oc17, od17, .func (PySem.W.fnOf "crossing" "crossing" (defArgs s_crossing) (defBody s_crossing) (defScope s_crossing) .none kV17 dc17 pm17 an17 cd17 ct17), sl17⟩) (c17 : PySem.W.codeIn K cd17 "crossing" = true) (k17 : PySem.W.keepIn K (.ref p17) = true)
    (a18 : PySem.W.nsIn K mainGlobals "width" = some (some (.ref p18))) (l18 : K.lookup p18 = some ⟨oc18, od18, .func (PySem.W.fnOf "width" "width" (defArgs s_width) (defBody s_width) (defScope s_width) .none kV18 dc18 pm18 an18 cd18 ct18), sl18⟩) (c18 : PySem.W.codeIn K cd18 "width" = true) (k18 : PySem.W.keepIn K (.ref p18) = true)
    (a19 : PySem.W.nsIn K mainGlobals "_law_width" = some (some (.ref p19))) (l19 : K.lookup p19 = some ⟨oc19, od19, .func (PySem.W.fnOf "_law_width" "_law_width" (defArgs s__law_width) (defBody s__law_width) (defScope s__law_width) .none kV19 dc19 pm19 an19 cd19 ct19), sl19⟩) (c19 : PySem.W.codeIn K cd19 "_law_width" = true) (k19 : PySem.W.keepIn K (.ref p19) = true)
    (a20 : PySem.W.nsIn K mainGlobals "_law_between" = some (some (.ref p20))) (l20 : K.lookup p20 = some ⟨oc20, od20, .func (PySem.W.fnOf "_law_between" "_law_between" (defArgs s__law_between) (defBody s__law_between) (defScope s__law_between) .none kV20 dc20 pm20 an20 cd20 ct20), sl20⟩) (c20 : PySem.W.codeIn K cd20 "_law_between" = true) (k20 : PySem.W.keepIn K (.ref p20) = true)
    (a21 : PySem.W.nsIn K mainGlobals "_law_stream" = some (some (.ref p21))) (l21 : K.lookup p21 = some ⟨oc21, od21, .func (PySem.W.fnOf "_law_stream" "_law_stream" (defArgs s__law_stream) (defBody s__law_stream) (defScope s__law_stream) .none kV21 dc21 pm21 an21 cd21 ct21), sl21⟩) (c21 : PySem.W.codeIn K cd21 "_law_stream" = true) (k21 : PySem.W.keepIn K (.ref p21) = true)
    (a22 : PySem.W.nsIn K mainGlobals "law" = some (some (.ref p22))) (l22 : K.lookup p22 = some ⟨oc22, od22, .func (PySem.W.fnOf "law" "law" (defArgs s_law) (defBody s_law) (defScope s_law) .none kV22 dc22 pm22 an22 cd22 ct22), sl22⟩) (c22 : PySem.W.codeIn K cd22 "law" = true) (k22 : PySem.W.keepIn K (.ref p22) = true)
    (z0 : PySem.W.nsIn K mainGlobals "LEAST_POINTS" = some (some (.int 2 tk0)))
    (z1 : PySem.W.nsIn K mainGlobals "MOST_POINTS" = some (some (.int 7 tk1)))
    (z2 : PySem.W.nsIn K mainGlobals "MOST_ROADS" = some (some (.int 15 tk2)))
    (z3 : PySem.W.nsIn K mainGlobals "MOST_WIDTH" = some (some (.int 6 tk3)))
    (b0 : PySem.W.nsIn K mainGlobals "abs" = some none)
    (b1 : PySem.W.nsIn K mainGlobals "int" = some none)
    (b2 : PySem.W.nsIn K mainGlobals "len" = some none)
    (b3 : PySem.W.nsIn K mainGlobals "range" = some none)
    (b4 : PySem.W.nsIn K mainGlobals "tuple" = some none)
    (b5 : PySem.W.nsIn K mainGlobals "sorted" = some none)
    (b6 : PySem.W.nsIn K mainGlobals "type" = some none)
    (b7 : PySem.W.nsIn K mainGlobals "all" = some none)
    (b8 : PySem.W.nsIn K mainGlobals "zip" = some none)
    (b9 : PySem.W.nsIn K mainGlobals "sum" = some none)
    (b10 : PySem.W.nsIn K mainGlobals "list" = some none) :
    ∃ fd : FuncData, (∀ (s : Shared) (v : Value), BindsTo s fd ⟨[v], []⟩ [("script", v)]) ∧ ∀ base : Heap, K.In base → base.Ns mainGlobals mg → FnOk P w K mg base CX0 LV fa fd ["script"] (spLaw K) := by
  have e := hfa.symm.trans (PySem.W.mg_of X G a22)
  cases e
  have F0 := fun_mk (st := s__law_next) l0 c0 k0
  have B0 := F0.binds (ps := ["stream", "many"]) fun _ _ _ _ _ _ us hl => match us, hl with | [_, _], _ => rfl
  have F1 := fun_mk (st := s__law_pick) l1 c1 k1
  have B1 := F1.binds (ps := ["stream", "rows"]) fun _ _ _ _ _ _ us hl => match us, hl with | [_, _], _ => rfl
  have F2 := fun_mk (st := s__law_links) l2 c2 k2
  have B2 := F2.binds (ps := ["stream", "points", "share", "most", "great"]) fun _ _ _ _ _ _ us hl => match us, hl with | [_, _, _, _, _], _ => rfl
  have F3 := fun_mk (st := s__law_fences) l3 c3 k3
  have B3 := F3.binds (ps := ["points"]) fun _ _ _ _ _ _ us hl => match us, hl with | [_], _ => rfl
  have F4 := fun_mk (st := s_is_tuple) l4 c4 k4
  have B4 := F4.binds (ps := ["value", "least", "most"]) fun _ _ _ _ _ _ us hl => match us, hl with | [_, _, _], _ => rfl
  have F5 := fun_mk (st := s_is_within) l5 c5 k5
  have B5 := F5.binds (ps := ["value", "least", "most"]) fun _ _ _ _ _ _ us hl => match us, hl with | [_, _, _], _ => rfl
  have F6 := fun_mk (st := s_is_pair) l6 c6 k6
  have B6 := F6.binds (ps := ["value", "points"]) fun _ _ _ _ _ _ us hl => match us, hl with | [_, _], _ => rfl
  have F7 := fun_mk (st := s_is_link) l7 c7 k7
  have B7 := F7.binds (ps := ["value", "points", "most"]) fun _ _ _ _ _ _ us hl => match us, hl with | [_, _, _], _ => rfl
  have F8 := fun_mk (st := s_is_ascending) l8 c8 k8
  have B8 := F8.binds (ps := ["items"]) fun _ _ _ _ _ _ us hl => match us, hl with | [_], _ => rfl
  have F9 := fun_mk (st := s_are_links) l9 c9 k9
  have B9 := F9.binds (ps := ["value", "points", "many", "most"]) fun _ _ _ _ _ _ us hl => match us, hl with | [_, _, _, _], _ => rfl
  have F10 := fun_mk (st := s_is_net) l10 c10 k10
  have B10 := F10.binds (ps := ["value"]) fun _ _ _ _ _ _ us hl => match us, hl with | [_], _ => rfl
  have F11 := fun_mk (st := s_need_net) l11 c11 k11
  have B11 := F11.binds (ps := ["net"]) fun _ _ _ _ _ _ us hl => match us, hl with | [_], _ => rfl
  have F12 := fun_mk (st := s_are_rising) l12 c12 k12
  have B12 := F12.binds (ps := ["value", "least", "most"]) fun _ _ _ _ _ _ us hl => match us, hl with | [_, _, _], _ => rfl
  have F13 := fun_mk (st := s_are_some) l13 c13 k13
  have B13 := F13.binds (ps := ["value", "least", "points"]) fun _ _ _ _ _ _ us hl => match us, hl with | [_, _, _], _ => rfl
  have F14 := fun_mk (st := s_is_fence) l14 c14 k14
  have B14 := F14.binds (ps := ["net", "value"]) fun _ _ _ _ _ _ us hl => match us, hl with | [_, _], _ => rfl
  have F15 := fun_mk (st := s_need_fence) l15 c15 k15
  have B15 := F15.binds (ps := ["net", "fence"]) fun _ _ _ _ _ _ us hl => match us, hl with | [_, _], _ => rfl
  have F16 := fun_mk (st := s_is_parted) l16 c16 k16
  have B16 := F16.binds (ps := ["fence", "one", "other"]) fun _ _ _ _ _ _ us hl => match us, hl with | [_, _, _], _ => rfl
  have F17 := fun_mk (st := s_crossing) l17 c17 k17
  have B17 := F17.binds (ps := ["links", "fence"]) fun _ _ _ _ _ _ us hl => match us, hl with | [_, _], _ => rfl
  have F18 := fun_mk (st := s_width) l18 c18 k18
  have B18 := F18.binds (ps := ["net", "fence"]) fun _ _ _ _ _ _ us hl => match us, hl with | [_, _], _ => rfl
  have F19 := fun_mk (st := s__law_width) l19 c19 k19
  have B19 := F19.binds (ps := ["net", "points"]) fun _ _ _ _ _ _ us hl => match us, hl with | [_, _], _ => rfl
  have F20 := fun_mk (st := s__law_between) l20 c20 k20
  have B20 := F20.binds (ps := ["roads", "first", "second"]) fun _ _ _ _ _ _ us hl => match us, hl with | [_, _, _], _ => rfl
  have F21 := fun_mk (st := s__law_stream) l21 c21 k21
  have B21 := F21.binds (ps := ["script"]) fun _ _ _ _ _ _ us hl => match us, hl with | [_], _ => rfl
  have F22 := fun_mk (st := s_law) l22 c22 k22
  have B22 := F22.binds (ps := ["script"]) fun _ _ _ _ _ _ us hl => match us, hl with | [_], _ => rfl
  refine ⟨PySem.W.fnOf "law" "law" (defArgs s_law) (defBody s_law) (defScope s_law) .none kV22 dc22 pm22 an22 cd22 ct22, fun s v => .of_eq rfl, fun base _ _ => ?_⟩
  have t0 : TOk P w K mg base T0 bts 0 := by
    refine ⟨fun f φ e => (by cases e), fun x i e => ?_, fun b hb => ?_⟩
    · unfold T0 at e
      dsimp only at e
      split at e
      · rename_i hx; subst hx; cases e; exact ⟨_, PySem.W.mg_of X G z0⟩
      split at e
      · rename_i hx; subst hx; cases e; exact ⟨_, PySem.W.mg_of X G z1⟩
      split at e
      · rename_i hx; subst hx; cases e; exact ⟨_, PySem.W.mg_of X G z2⟩
      split at e
      · rename_i hx; subst hx; cases e; exact ⟨_, PySem.W.mg_of X G z3⟩
      cases e
    · simp only [bts, List.mem_cons, List.not_mem_nil, or_false] at hb
      rcases hb with rfl | rfl | rfl | rfl | rfl | rfl | rfl | rfl | rfl | rfl | rfl
      · exact (PySem.W.mg_none_of X G b0).trans (by decide)
      · exact (PySem.W.mg_none_of X G b1).trans (by decide)
      · exact (PySem.W.mg_none_of X G b2).trans (by decide)
      · exact (PySem.W.mg_none_of X G b3).trans (by decide)
      · exact (PySem.W.mg_none_of X G b4).trans (by decide)
      · exact (PySem.W.mg_none_of X G b5).trans (by decide)
      · exact (PySem.W.mg_none_of X G b6).trans (by decide)
      · exact (PySem.W.mg_none_of X G b7).trans (by decide)
      · exact (PySem.W.mg_none_of X G b8).trans (by decide)
      · exact (PySem.W.mg_none_of X G b9).trans (by decide)
      · exact (PySem.W.mg_none_of X G b10).trans (by decide)
  have t1 : TOk P w K mg base T1 bts 1 := (t0.le (Nat.le_succ 0)).add rfl (PySem.W.mg_of X G a0) k0 B0 (def_ok t0 F0 sc__law_next k__law_next)
  have t2 : TOk P w K mg base T2 bts 2 := (t1.le (Nat.le_succ 1)).add rfl (PySem.W.mg_of X G a1) k1 B1 (def_ok t1 F1 sc__law_pick k__law_pick)
  have t3 : TOk P w K mg base T3 bts 3 := (t2.le (Nat.le_succ 2)).add rfl (PySem.W.mg_of X G a2) k2 B2 (def_ok t2 F2 sc__law_links k__law_links)
  have t4 : TOk P w K mg base T4 bts 4 := (t3.le (Nat.le_succ 3)).add rfl (PySem.W.mg_of X G a3) k3 B3 (def_ok t3 F3 sc__law_fences k__law_fences)
  have t5 : TOk P w K mg base T5 bts 5 := (t4.le (Nat.le_succ 4)).add rfl (PySem.W.mg_of X G a4) k4 B4 (def_ok t4 F4 sc_is_tuple k_is_tuple)
  have t6 : TOk P w K mg base T6 bts 6 := (t5.le (Nat.le_succ 5)).add rfl (PySem.W.mg_of X G a5) k5 B5 (def_ok t5 F5 sc_is_within k_is_within)
  have t7 : TOk P w K mg base T7 bts 7 := (t6.le (Nat.le_succ 6)).add rfl (PySem.W.mg_of X G a6) k6 B6 (def_ok t6 F6 sc_is_pair k_is_pair)
  have t8 : TOk P w K mg base T8 bts 8 := (t7.le (Nat.le_succ 7)).add rfl (PySem.W.mg_of X G a7) k7 B7 (def_ok t7 F7 sc_is_link k_is_link)
  have t9 : TOk P w K mg base T9 bts 9 := (t8.le (Nat.le_succ 8)).add rfl (PySem.W.mg_of X G a8) k8 B8 (def_ok t8 F8 sc_is_ascending k_is_ascending)
  have t10 : TOk P w K mg base T10 bts 10 := (t9.le (Nat.le_succ 9)).add rfl (PySem.W.mg_of X G a9) k9 B9 (def_ok t9 F9 sc_are_links k_are_links)
  have t11 : TOk P w K mg base T11 bts 11 := (t10.le (Nat.le_succ 10)).add rfl (PySem.W.mg_of X G a10) k10 B10 (def_ok t10 F10 sc_is_net k_is_net)
  have t12 : TOk P w K mg base T12 bts 12 := (t11.le (Nat.le_succ 11)).add rfl (PySem.W.mg_of X G a11) k11 B11 (def_ok t11 F11 sc_need_net k_need_net)
  have t13 : TOk P w K mg base T13 bts 13 := (t12.le (Nat.le_succ 12)).add rfl (PySem.W.mg_of X G a12) k12 B12 (def_ok t12 F12 sc_are_rising k_are_rising)
  have t14 : TOk P w K mg base T14 bts 14 := (t13.le (Nat.le_succ 13)).add rfl (PySem.W.mg_of X G a13) k13 B13 (def_ok t13 F13 sc_are_some k_are_some)
  have t15 : TOk P w K mg base T15 bts 15 := (t14.le (Nat.le_succ 14)).add rfl (PySem.W.mg_of X G a14) k14 B14 (def_ok t14 F14 sc_is_fence k_is_fence)
  have t16 : TOk P w K mg base T16 bts 16 := (t15.le (Nat.le_succ 15)).add rfl (PySem.W.mg_of X G a15) k15 B15 (def_ok t15 F15 sc_need_fence k_need_fence)
  have t17 : TOk P w K mg base T17 bts 17 := (t16.le (Nat.le_succ 16)).add rfl (PySem.W.mg_of X G a16) k16 B16 (def_ok t16 F16 sc_is_parted k_is_parted)
  have t18 : TOk P w K mg base T18 bts 18 := (t17.le (Nat.le_succ 17)).add rfl (PySem.W.mg_of X G a17) k17 B17 (def_ok t17 F17 sc_crossing k_crossing)
  have t19 : TOk P w K mg base T19 bts 19 := (t18.le (Nat.le_succ 18)).add rfl (PySem.W.mg_of X G a18) k18 B18 (def_ok t18 F18 sc_width k_width)
  have t20 : TOk P w K mg base T20 bts 20 := (t19.le (Nat.le_succ 19)).add rfl (PySem.W.mg_of X G a19) k19 B19 (def_ok t19 F19 sc__law_width k__law_width)
  have t21 : TOk P w K mg base T21 bts 21 := (t20.le (Nat.le_succ 20)).add rfl (PySem.W.mg_of X G a20) k20 B20 (def_ok t20 F20 sc__law_between k__law_between)
  have hs := stream_ok (P := P) (w := w) (mg := mg) (base := base) F21 sc__law_stream (PySem.W.mg_none_of X G b10) rfl rfl rfl
  exact law_ok t21 F22 sc_law hs B21 (PySem.W.mg_of X G a21) k21 (by decide) rfl rfl rfl rfl k_law (rest_ok tk)
theorem walk {l : PySem.W.OpenLaw} {q : Program} {loose : List Str} {XP : (Str → Option Value) → Heap → Prop} {YP : World → Heap → Prop} {d : DefRec} {K : Params → PySem.W.Frag} (hn : l.most = some 63) (hdf : d.params.defaults = [])
    (hY : ∀ (w : World) (h : Heap), YP w h → (K w.params).In h)
    (F : ∀ (w : World) (mg : Str → Option Value) (fa : Addr) (h : Heap), (K w.params).In h → h.Ns mainGlobals mg → mg d.name = some (.ref fa) →
      ∃ fd : FuncData, (∀ (s : Shared) (u : Value), BindsTo s fd ⟨[u], []⟩ [("script", u)]) ∧ ∀ base : Heap, (K w.params).In base → base.Ns mainGlobals mg → FnOk l.prog w (K w.params) mg base CX0 LV fa fd ["script"] (spLaw (K w.params))) :
    PySem.W.WalkO q loose XP YP l.row.toRowW d [] (fun f vs => PySem.call f vs) :=
  L2.walk_of (n := 63) (k := LV) (x := "script") (CX := fun _ => CX0) (sp := fun w => spLaw (K w.params)) hn (by decide) hdf ⟨rfl, by decide, by decide⟩ hY F (fun _ _ a ns hl _ hS => ⟨a, ns, rfl, hS, hl, fun _ => rfl⟩) fun _ _ _ _ _ z => z
end K03
open PySem PySem.W PyProof.Rows
set_option maxRecDepth 100000 in
set_option maxHeartbeats 0 in
theorem PySem.Challenge.cw_wishshapes_k03_whole_two_fences_holds : PySem.Challenge.rw_wishshapes_k03_whole_two_fences.Holds := by
  w_on; o_law; k_head; (case hw => w_witness2)
  k_fill
  refine K03.walk (l := PySem.Challenge.rw_wishshapes_k03_whole_two_fences) rfl rfl (fun w h Y => PySem.W.kIn_of Y) ?F
  case F =>
    intro w mg fa h KX G hmg
    refine' K03.all_mk KX G hmg ?a0 ?l0 ?c0 ?k0 ?a1 ?l1 ?c1 ?k1 ?a2 ?l2 ?c2 ?k2 ?a3 ?l3 ?c3 ?k3 ?a4 ?l4 ?c4 ?k4 ?a5 ?l5 ?c5 ?k5 ?a6 ?l6 ?c6 ?k6 ?a7 ?l7 ?c7 ?k7 ?a8 ?l8 ?c8 ?k8 ?a9 ?l9 ?c9 ?k9 ?a10 ?l10 ?c10 ?k10 ?a11 ?l11 ?c11 ?k11 ?a12 ?l12 ?c12 ?k12 ?a13 ?l13 ?c13 ?k13 ?a14 ?l14 ?c14 ?k14 ?a15 ?l15 ?c15 ?k15 ?a16 ?l16 ?c16 ?k16 ?a17 ?l17 ?c17 ?k17 ?a18 ?l18 ?c18 ?k18 ?a19 ?l19 ?c19 ?k19 ?a20 ?l20 ?c20 ?k20 ?a21 ?l21 ?c21 ?k21 ?a22 ?l22 ?c22 ?k22 ?z0 ?z1 ?z2 ?z3 ?b0 ?b1 ?b2 ?b3 ?b4 ?b5 ?b6 ?b7 ?b8 ?b9 ?b10
    (case a0 => k_is); (case l0 => k_is); (case c0 => k_is); (case k0 => k_is); (case a1 => k_is); (case l1 => k_is)
    (case c1 => k_is); (case k1 => k_is); (case a2 => k_is); (case l2 => k_is); (case c2 => k_is); (case k2 => k_is)
    (case a3 => k_is); (case l3 => k_is); (case c3 => k_is); (case k3 => k_is); (case a4 => k_is); (case l4 => k_is)
    (case c4 => k_is); (case k4 => k_is); (case a5 => k_is); (case l5 => k_is); (case c5 => k_is); (case k5 => k_is)
    (case a6 => k_is); (case l6 => k_is); (case c6 => k_is); (case k6 => k_is); (case a7 => k_is); (case l7 => k_is)
    (case c7 => k_is); (case k7 => k_is); (case a8 => k_is); (case l8 => k_is); (case c8 => k_is); (case k8 => k_is)
    (case a9 => k_is); (case l9 => k_is); (case c9 => k_is); (case k9 => k_is); (case a10 => k_is); (case l10 => k_is)
    (case c10 => k_is); (case k10 => k_is); (case a11 => k_is); (case l11 => k_is); (case c11 => k_is); (case k11 => k_is)
    (case a12 => k_is); (case l12 => k_is); (case c12 => k_is); (case k12 => k_is); (case a13 => k_is); (case l13 => k_is)
    (case c13 => k_is); (case k13 => k_is); (case a14 => k_is); (case l14 => k_is); (case c14 => k_is); (case k14 => k_is)
    (case a15 => k_is); (case l15 => k_is); (case c15 => k_is); (case k15 => k_is); (case a16 => k_is); (case l16 => k_is)
    (case c16 => k_is); (case k16 => k_is); (case a17 => k_is); (case l17 => k_is); (case c17 => k_is); (case k17 => k_is)
    (case a18 => k_is); (case l18 => k_is); (case c18 => k_is); (case k18 => k_is); (case a19 => k_is); (case l19 => k_is)
    (case c19 => k_is); (case k19 => k_is); (case a20 => k_is); (case l20 => k_is); (case c20 => k_is); (case k20 => k_is)
    (case a21 => k_is); (case l21 => k_is); (case c21 => k_is); (case k21 => k_is); (case a22 => k_is); (case l22 => k_is)
    (case c22 => k_is); (case k22 => k_is); (case z0 => k_is); (case z1 => k_is); (case z2 => k_is); (case z3 => k_is)
    (case b0 => k_is); (case b1 => k_is); (case b2 => k_is); (case b3 => k_is); (case b4 => k_is); (case b5 => k_is)
    (case b6 => k_is); (case b7 => k_is); (case b8 => k_is); (case b9 => k_is); (case b10 => k_is)


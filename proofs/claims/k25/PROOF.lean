import PyProof.Rows.All
import HandS.ForMost
import HandS.Exc
import HandS.TryOnly
import HandS.WordsExc
import HandS.Flow
import HandS.TupAny
import HandS.Zip
import HandS.Walk
import HandS.IsInst
import HandS.Gcd
import KE.SortData
import KE.DataMinMax
import KE.DataCmp
import PyProof.TypeEq
import PyProof.InstEq
import HandS.Deep
import HandS.Style
import HandS.Conv
import PyProof.Transfer
import PyProof.ListCopy
import HandS.SetFor
import HandS.Strs
import HandS.TupMul
import PyProof.TypeOfCall
import HandS.Call
import HandS.Base
import HandS.RepeatKit
import PyProof.ZipIter
import HandS.Iter
import HandS.NoneIn
import HandS.SetBool
import HandS.Star
import HandS.ExcInit
import HandS.ExcField
import HandS.ExcIs
import HandS.FStr
import HandS.TryMany
import HandS.ExcSuper
import HandS.CallSlots
import KE.KSuper
import KE.KExcSuper
import KE.KExcIs
import HandS.Dict
import HandS.More
import PySem.Challenge.RW_wishshapes_k25_whole_pairs_that_may_join
import Open.Row
set_option Elab.async false
set_option linter.all false
set_option maxRecDepth 100000
set_option maxHeartbeats 8000000
/-! Ws1: plain values (trees), and how they lie in the abstract heap. -/
namespace Ws
open PySem PySem.Spec PyProof.Rows L2

/-- a plain value; own: a list that a local name holds alone; stm: the law's stream -/
inductive PV where
  | non | bl (b : Bool) | int (i : Int) | str (s : Str) | ty (n : String) | tup (l : List PV) | lst (l : List PV) | own (l : List PV) | stm
  deriving Inhabited

/-- the stream's state: the script, the cell, the place -/
abbrev Strm := Option (List Int × Int × Int)

mutual
/-- v is the tree x; lists lie at addresses of R alone -/
inductive Rep (K : PySem.W.Frag) (R : Addr → Prop) (a : Addr) (H : Hp) : V → PV → Prop where
  | non : Rep K R a H .non .non
  | bl (b : Bool) : Rep K R a H (.bl b) (.bl b)
  | int (i : Int) : Rep K R a H (.int i) (.int i)
  | str (s : Str) : Rep K R a H (.str s) (.str s)
  | ty (n : String) : Rep K R a H (.ty n) (.ty n)
  | tup {p : Addr} {vs : List V} {xs : List PV} : H p = some (.tup vs) → p ≠ a → Reps K R a H vs xs → Rep K R a H (.ref p) (.tup xs)
  | lst {p : Addr} {vs : List V} {xs : List PV} : H p = some (.lst vs) → p ≠ a → R p → Reps K R a H vs xs → Rep K R a H (.ref p) (.lst xs)
  | stm : Rep K R a H (.ref a) .stm
inductive Reps (K : PySem.W.Frag) (R : Addr → Prop) (a : Addr) (H : Hp) : List V → List PV → Prop where
  | nil : Reps K R a H [] []
  | cons {v : V} {x : PV} {vs : List V} {xs : List PV} : Rep K R a H v x → Reps K R a H vs xs → Reps K R a H (v :: vs) (x :: xs)
end

/-- all that is tracked but the stream stays; the stream keeps its script -/
def Keep (a : Addr) (H H' : Hp) : Prop := (∀ b o, H b = some o → b ≠ a → H' b = some o) ∧ (∀ b, H b ≠ none → H' b ≠ none) ∧ ∀ q r, H a = some (.lst (.ref q :: r)) → ∃ r', H' a = some (.lst (.ref q :: r'))
theorem Keep.refl {a : Addr} {H : Hp} : Keep a H H := ⟨fun _ _ h _ => h, fun _ h => h, fun _ r h => ⟨r, h⟩⟩
theorem Keep.trans {a : Addr} {H H1 H2 : Hp} (x : Keep a H H1) (y : Keep a H1 H2) : Keep a H H2 :=
  ⟨fun b o h n => y.1 b o (x.1 b o h n) n, fun b h => y.2.1 b (x.2.1 b h), fun q r h => let ⟨r', h'⟩ := x.2.2 q r h; y.2.2 q r' h'⟩
theorem Keep.upd {a p : Addr} {H : Hp} {o : HO} (h : H p = none) : Keep a H (upd H p o) := by
  refine ⟨fun b u e _ => ?_, fun b e => ?_, fun q r e => ⟨r, ?_⟩⟩
  · rw [upd_ne (ne_of_none e h)]; exact e
  · by_cases q : b = p
    · subst q; rw [upd_same]; exact fun z => by cases z
    · rw [upd_ne q]; exact e
  · rw [upd_ne (ne_of_none e h)]; exact e
theorem Keep.fresh {a b : Addr} {H H' : Hp} (k : Keep a H H') (h : H' b = none) : H b = none := by
  cases e : H b with
  | none => rfl
  | some o => exact absurd h (k.2.1 b (by rw [e]; exact fun z => by cases z))

theorem SqL.kp {K : PySem.W.Frag} {H H' : Hp} {p : Addr} {vs : List V} (h : SqL K H p vs) (k : ∀ o, H p = some o → H' p = some o) : SqL K H' p vs := by
  rcases h with (h | ⟨o, h⟩) | h
  · exact .inl (.inl (k _ h))
  · exact .inl (.inr ⟨o, k _ h⟩)
  · exact .inr h
theorem SqT.kp {K : PySem.W.Frag} {H H' : Hp} {p : Addr} {vs : List V} (h : SqT K H p vs) (k : ∀ o, H p = some o → H' p = some o) : SqT K H' p vs := by
  rcases h with (h | ⟨o, h⟩) | h
  · exact .inl (.inl (k _ h))
  · exact .inl (.inr ⟨o, k _ h⟩)
  · exact .inr h

section
variable {K : PySem.W.Frag} {R R' : Addr → Prop} {a : Addr} {H H' : Hp}
mutual
theorem Rep.mono (hR : ∀ b, R b → R' b) (k : Keep a H H') : ∀ {v : V} {x : PV}, Rep K R a H v x → Rep K R' a H' v x
  | _, _, .non => .non
  | _, _, .bl b => .bl b
  | _, _, .int i => .int i
  | _, _, .str s => .str s
  | _, _, .ty n => .ty n
  | _, _, .stm => .stm
  | _, _, .tup h n r => .tup (k.1 _ _ h n) n (Reps.mono hR k r)
  | _, _, .lst h n q r => .lst (k.1 _ _ h n) n (hR _ q) (Reps.mono hR k r)
theorem Reps.mono (hR : ∀ b, R b → R' b) (k : Keep a H H') : ∀ {vs : List V} {xs : List PV}, Reps K R a H vs xs → Reps K R' a H' vs xs
  | _, _, .nil => .nil
  | _, _, .cons r rs => .cons (Rep.mono hR k r) (Reps.mono hR k rs)
end
theorem Rep.keep (k : Keep a H H') {v : V} {x : PV} (r : Rep K R a H v x) : Rep K R a H' v x := r.mono (fun _ h => h) k
theorem Reps.keep (k : Keep a H H') {vs : List V} {xs : List PV} (r : Reps K R a H vs xs) : Reps K R a H' vs xs := r.mono (fun _ h => h) k

theorem Reps.length : ∀ {vs : List V} {xs : List PV}, Reps K R a H vs xs → vs.length = xs.length
  | _, _, .nil => rfl
  | _, _, .cons _ rs => by rw [List.length_cons, List.length_cons, Reps.length rs]
theorem Reps.get : ∀ {vs : List V} {xs : List PV} {i : Nat} {x : PV}, Reps K R a H vs xs → xs[i]? = some x → ∃ v, vs[i]? = some v ∧ Rep K R a H v x
  | _, _, _, _, .nil, e => by simp at e
  | _, _, 0, _, .cons r _, e => by simp at e; subst e; exact ⟨_, rfl, r⟩
  | _, _, i + 1, x, .cons _ t, e => by
    obtain ⟨u, h1, h2⟩ := Reps.get (i := i) (x := x) t (by simpa using e)
    exact ⟨u, by simpa using h1, h2⟩
theorem Reps.getV : ∀ {vs : List V} {xs : List PV} {i : Nat} {v : V}, Reps K R a H vs xs → vs[i]? = some v → ∃ x, xs[i]? = some x ∧ Rep K R a H v x
  | _, _, _, _, .nil, e => by simp at e
  | _, _, 0, _, .cons r _, e => by simp at e; subst e; exact ⟨_, rfl, r⟩
  | _, _, i + 1, x, .cons _ t, e => by
    obtain ⟨u, h1, h2⟩ := Reps.getV (i := i) t (by simpa using e)
    exact ⟨u, by simpa using h1, h2⟩
theorem Reps.append : ∀ {vs ws : List V} {xs ys : List PV}, Reps K R a H vs xs → Reps K R a H ws ys → Reps K R a H (vs ++ ws) (xs ++ ys)
  | _, _, _, _, .nil, s => s
  | _, _, _, _, .cons r t, s => .cons r (Reps.append t s)
theorem Reps.take : ∀ {vs : List V} {xs : List PV} (n : Nat), Reps K R a H vs xs → Reps K R a H (vs.take n) (xs.take n)
  | _, _, 0, _ => .nil
  | _, _, _ + 1, .nil => .nil
  | _, _, n + 1, .cons r t => .cons r (Reps.take n t)
theorem Reps.drop : ∀ {vs : List V} {xs : List PV} (n : Nat), Reps K R a H vs xs → Reps K R a H (vs.drop n) (xs.drop n)
  | _, _, 0, r => r
  | _, _, _ + 1, .nil => .nil
  | _, _, n + 1, .cons _ t => Reps.drop n t
theorem Reps.set : ∀ {vs : List V} {xs : List PV} {v : V} {x : PV} (n : Nat), Rep K R a H v x → Reps K R a H vs xs → Reps K R a H (vs.set n v) (xs.set n x)
  | _, _, _, _, _, _, .nil => .nil
  | _, _, _, _, 0, r, .cons _ t => .cons r t
  | _, _, _, _, n + 1, r, .cons q t => .cons q (Reps.set n r t)
theorem Reps.reverse {vs : List V} {xs : List PV} (r : Reps K R a H vs xs) : Reps K R a H vs.reverse xs.reverse := by
  induction vs generalizing xs with
  | nil => cases r; exact .nil
  | cons v vs ih =>
    cases r with
    | cons r rs => rw [List.reverse_cons, List.reverse_cons]; exact (ih rs).append (.cons r .nil)
theorem Reps.rep {vs : List V} {xs : List PV} (r : Reps K R a H vs xs) : ∀ k : Nat, Reps K R a H (List.replicate k vs).flatten (List.replicate k xs).flatten
  | 0 => .nil
  | k + 1 => by rw [List.replicate_succ, List.replicate_succ, List.flatten_cons, List.flatten_cons]; exact r.append (Reps.rep r k)
/-- ints -/
theorem Reps.ints : ∀ {vs : List V} {ns : List Int}, Reps K R a H vs (ns.map PV.int) → vs = ns.map V.int
  | _, [], .nil => rfl
  | _, n :: ns, .cons r t => by
    have e := Reps.ints (ns := ns) t
    cases r
    rw [e]; rfl
theorem Reps.ofInts : ∀ (ns : List Int), Reps K R a H (ns.map V.int) (ns.map PV.int)
  | [] => .nil
  | n :: ns => .cons (.int n) (Reps.ofInts ns)
theorem Reps.bls : ∀ {vs : List V} {ns : List Bool}, Reps K R a H vs (ns.map PV.bl) → vs = ns.map V.bl
  | _, [], .nil => rfl
  | _, n :: ns, .cons r t => by
    have e := Reps.bls (ns := ns) t
    cases r
    rw [e]; rfl
end

/- without lists (and streams): R is not asked -/
mutual
def PV.flat : PV → Bool
  | .tup l => PV.flats l
  | .lst _ => false
  | .own _ => false
  | .stm => false
  | _ => true
def PV.flats : List PV → Bool
  | [] => true
  | x :: xs => PV.flat x && PV.flats xs
end
section
variable {K : PySem.W.Frag} {R R' : Addr → Prop} {a : Addr} {H : Hp}
mutual
theorem Rep.flat : ∀ {v : V} {x : PV}, Rep K R a H v x → PV.flat x = true → Rep K R' a H v x
  | _, _, .non, _ => .non
  | _, _, .bl b, _ => .bl b
  | _, _, .int i, _ => .int i
  | _, _, .str s, _ => .str s
  | _, _, .ty n, _ => .ty n
  | _, _, .stm, _ => .stm
  | _, _, .tup h n r, e => .tup h n (Reps.flat r (by simpa [PV.flat] using e))
  | _, _, .lst h n q r, e => by simp [PV.flat] at e
theorem Reps.flat : ∀ {vs : List V} {xs : List PV}, Reps K R a H vs xs → PV.flats xs = true → Reps K R' a H vs xs
  | _, _, .nil, _ => .nil
  | _, _, .cons r rs, e => by
    simp only [PV.flats, Bool.and_eq_true] at e
    exact .cons (Rep.flat r e.1) (Reps.flat rs e.2)
end
end

/-- a value, or the content of an owned list -/
def RepE (K : PySem.W.Frag) (R : Addr → Prop) (a : Addr) (H : Hp) (v : V) : PV → Prop
  | .own xs => ∃ l vs, v = .ref l ∧ H l = some (.lst vs) ∧ l ≠ a ∧ Reps K R a H vs xs
  | x => Rep K R a H v x
theorem RepE.keep {K : PySem.W.Frag} {R : Addr → Prop} {a : Addr} {H H' : Hp} (k : Keep a H H') {v : V} {x : PV} (r : RepE K R a H v x) : RepE K R a H' v x := by
  cases x with
  | own xs => obtain ⟨l, vs, e, h, n, q⟩ := r; exact ⟨l, vs, e, k.1 _ _ h n, n, q.keep k⟩
  | _ => exact Rep.keep k r
def PV.isOwn : PV → Bool
  | .own _ => true
  | _ => false
theorem RepE.rep {K : PySem.W.Frag} {R : Addr → Prop} {a : Addr} {H : Hp} {v : V} {x : PV} (r : RepE K R a H v x) (h : x.isOwn = false) : Rep K R a H v x := by
  cases x with
  | own xs => simp [PV.isOwn] at h
  | _ => exact r
theorem Rep.noOwn {K : PySem.W.Frag} {R : Addr → Prop} {a : Addr} {H : Hp} {v : V} {x : PV} (r : Rep K R a H v x) : x.isOwn = false := by cases r <;> rfl
theorem Rep.toE {K : PySem.W.Frag} {R : Addr → Prop} {a : Addr} {H : Hp} {v : V} {x : PV} (r : Rep K R a H v x) : RepE K R a H v x := by
  cases x with
  | own xs => cases r
  | _ => exact r

/-- the names' values -/
abbrev Env := List (Option PV)
structure EnvE (K : PySem.W.Frag) (R : Addr → Prop) (a : Addr) (H : Hp) (σ : L2.St) (env : Env) : Prop where
  len : σ.length = env.length
  get : ∀ (i : Nat) (x : PV), env[i]? = some (some x) → ∃ v, σ[i]? = some (some v) ∧ RepE K R a H v x
theorem EnvE.keep {K : PySem.W.Frag} {R : Addr → Prop} {a : Addr} {H H' : Hp} {σ : L2.St} {env : Env} (k : Keep a H H') (e : EnvE K R a H σ env) : EnvE K R a H' σ env := ⟨e.len, fun i x h =>
  let ⟨v, h1, h2⟩ := e.get i x h
  ⟨v, h1, h2.keep k⟩⟩
theorem EnvE.set {K : PySem.W.Frag} {R : Addr → Prop} {a : Addr} {H : Hp} {σ : L2.St} {env : Env} (e : EnvE K R a H σ env) {v : V} {x : PV} (r : RepE K R a H v x) (i : Nat) : EnvE K R a H (σ.set i (some v)) (env.set i (some x)) := by
  refine ⟨by rw [List.length_set, List.length_set]; exact e.len, fun j y h => ?_⟩
  by_cases hj : i = j
  · subst hj
    by_cases hi : i < env.length
    · rw [List.getElem?_set_self hi] at h
      cases h
      exact ⟨v, List.getElem?_set_self (by rw [e.len]; exact hi), r⟩
    · rw [List.getElem?_eq_none (by simpa using hi)] at h
      cases h
  · rw [List.getElem?_set_ne hj] at h ⊢
    exact e.get j y h

def SRel (K : PySem.W.Frag) (R : Addr → Prop) (a : Addr) (H : Hp) : Strm → Prop
  | none => True
  | some (scr, c, k) => ∃ q, H a = some (.lst [.ref q, .int c, .int k]) ∧ H q = some (.lst (scr.map V.int)) ∧ q ≠ a ∧ R q
theorem SRel.upd {K : PySem.W.Frag} {R : Addr → Prop} {a p : Addr} {H : Hp} {o : HO} {S : Strm} (h : H p = none) (s : SRel K R a H S) : SRel K R a (upd H p o) S := by
  cases S with
  | none => trivial
  | some t =>
    obtain ⟨scr, c, k⟩ := t
    obtain ⟨q, h1, h2, h3, h4⟩ := s
    exact ⟨q, by rw [upd_ne (ne_of_none h1 h)]; exact h1, by rw [upd_ne (ne_of_none h2 h)]; exact h2, h3, h4⟩
theorem SRel.mono {K : PySem.W.Frag} {R R' : Addr → Prop} {a : Addr} {H : Hp} {S : Strm} (hR : ∀ b, R b → R' b) (s : SRel K R a H S) : SRel K R' a H S := by
  cases S with
  | none => trivial
  | some t =>
    obtain ⟨scr, c, k⟩ := t
    obtain ⟨q, h1, h2, h3, h4⟩ := s
    exact ⟨q, h1, h2, h3, hR _ h4⟩

/-- fresh addresses are of R; the stream's is not -/
structure Fresh (R : Addr → Prop) (a : Addr) (H : Hp) : Prop where
  fc : ∀ b, H b = none → R b
  na : ¬ R a
theorem Fresh.keep {R : Addr → Prop} {a : Addr} {H H' : Hp} (f : Fresh R a H) (k : Keep a H H') : Fresh R a H' := ⟨fun b h => f.fc b (k.fresh h), f.na⟩
theorem Fresh.ne {R : Addr → Prop} {a p : Addr} {H : Hp} (f : Fresh R a H) (h : H p = none) : p ≠ a := fun e => f.na (e ▸ f.fc p h)
theorem Fresh.any {R : Addr → Prop} {a : Addr} {H : Hp} (f : Fresh R a H) : Fresh (fun b => b ≠ a) a H := ⟨fun b h => f.ne h, fun h => h rfl⟩
theorem Fresh.le {R : Addr → Prop} {a : Addr} {H : Hp} (f : Fresh R a H) : ∀ b, R b → b ≠ a := fun b h e => f.na (e ▸ h)
/-- the script's place is known behind -/
theorem SRel.back {K : PySem.W.Frag} {R R' : Addr → Prop} {a : Addr} {H H' : Hp} {S S' : Strm} (s : SRel K R a H S) (k : Keep a H H') (s' : SRel K R' a H' S') (h : (S.isSome || S'.isNone) = true) : SRel K R a H' S' := by
  cases S' with
  | none => trivial
  | some t' =>
    cases S with
    | none => simp at h
    | some t =>
      obtain ⟨scr, c, k1⟩ := t
      obtain ⟨scr', c', k1'⟩ := t'
      obtain ⟨q, h1, h2, h3, h4⟩ := s
      obtain ⟨q', h1', h2', h3', h4'⟩ := s'
      obtain ⟨r', e⟩ := k.2.2 _ _ h1
      rw [h1'] at e
      have e2 : q' = q := by
        injection e with e
        injection e with e
        injection e with e _
        injection e
      subst e2
      exact ⟨q', h1', h2', h3', h4⟩
end Ws

/-! WsC: tuples can be sorted among which an empty one is. -/
namespace Ws
open PySem PySem.Spec PyProof.Rows PySem.W PySem.Calls PySem.SeqAt

theorem each_right {α β : Type} {R : α → β → Prop} : ∀ {as : List α} {bs : List β}, EachIs R as bs → ∀ b, b ∈ bs → ∃ a, a ∈ as ∧ R a b
  | _, _, .nil, b, h => absurd h (by simp)
  | _, _, .cons (a := a) h t, b, hb => by
    rcases List.mem_cons.mp hb with rfl | hb
    · exact ⟨_, List.mem_cons_self .., h⟩
    · obtain ⟨a', h1, h2⟩ := each_right t b hb
      exact ⟨a', List.mem_cons_of_mem _ h1, h2⟩
/-- as the kit's, or all are tuples -/
def SortT (ds : List PyData) : Prop := PySem.W.Sortable ds ∨ ∀ d, d ∈ ds → ∃ xs, d = .tuple xs
section
variable {prog : Program} {w : World} {A : Around} {s : Shared}
theorem call_tuple_lt {E : Value → Shared → Prop} {Q : Value → Shared → Prop} {l b : Addr} {items items2 : Array Value} {e r : Nat → Bool} (hl : s.heap.IsTuple l items) (hb : s.heap.IsTuple b items2)
    (he : ∀ j (h1 : j < items.size) (h2 : j < items2.size), EqAt A.in1 s items[j] items2[j] (e j)) (hr : ∀ j (h1 : j < items.size) (h2 : j < items2.size), e j = false → RcLt A.in1 s items[j] items2[j] (r j))
    (h : Q (.bool (firstLt e r (decide (items.size < items2.size)) (List.range (min items.size items2.size)))) s) : wpAny (model prog w) A (call (.builtin "tuple.__lt__") [.ref l, .ref b]) Q E s := by
  obtain ⟨⟨cls, dd, data, sl⟩, ho, hc, n, hd⟩ := id hl
  obtain ⟨⟨cls2, dd2, data2, sl2⟩, ho2, hc2, n2, hd2⟩ := id hb
  simp only at hc hd hc2 hd2
  subst hc hd hc2 hd2
  exact call_meets F.slot_tuple_lt ⟨_, ho, rfl⟩ F.entry_tuple_lt (F.args_tuple_lt_2 _ _) (tuple_ltAt l b items items2 n n2 dd dd2 sl sl2 e r) ⟨ho, ho2, he, hr, h⟩
/-- a tuple against another, as sorting asks tuple's own __lt__ -/
theorem oneLt_tuple {E : Value → Shared → Prop} {xs ys : List PyData} {a b : Value} {as bs : List Addr} {Q : Bool → Shared → Prop} (ra : Reads s.heap a (.tuple xs) as) (rb : Reads s.heap b (.tuple ys) bs) (hal : PySem.W.alikeAll xs ys = true)
    (hu : A.units + min (PyData.tuple xs).depth (PyData.tuple ys).depth < cLine) (hq : Q (PySem.W.dataLt (.tuple xs) (.tuple ys)) s) : wpAny (model prog w) A (oneLt' true a b) Q E s := by
  cases ra with
  | @tuple l o vs n _ as₁ h1 h2 h3 h4 =>
    cases rb with
    | @tuple l' o' vs' n' _ bs₁ k1 k2 k3 k4 =>
      have n1 : vs.size = xs.length := by simpa using ReadsAll.length _ _ _ h4
      have n2 : vs'.size = ys.length := by simpa using ReadsAll.length _ _ _ k4
      rw [dataLt_tuple, ← firstLt_toks xs ys hal, ← n1, ← n2] at hq
      rw [oneLt'_eq]
      simp only [if_true]
      refine wpAny_bind (wpAny_cRoomFor (room_here hu) ?_)
      refine wpAny_bind (wpAny_callSpecialIfBound?_slot (T := "tuple") ⟨_, h1, h2⟩ F.slot_tuple_lt (call_tuple_lt (e := pairEq xs ys) (r := fun j => PySem.W.dataLt (xs.getD j .none) (ys.getD j .none)) ⟨_, h1, h2, _, h3⟩ ⟨_, k1, k2, _, k3⟩ (fun j j1 j2 => ?_) (fun j j1 j2 hj => ?_) ?_))
      · have := eqAt_alikeAll xs ys A.in1 s vs.toList vs'.toList _ _ h4 k4 hal (room_in hu) j (by simpa using j1) (by simpa using j2)
        simpa using this
      · have := rcLt_alikeAll xs ys A.in1 s vs.toList vs'.toList _ _ h4 k4 hal (room_in hu) j (by simpa using j1) (by simpa using j2) hj
        simpa using this
      · exact wpAny_truthy_bool hq
/-- what the firsts of tuples are -/
theorem mapM_firsts {M : Model} {E : Value → Shared → Prop} : ∀ (vs : List Value) (ds : List PyData) {Q : List (Option Value) → Shared → Prop}, EachIs (fun v d => ∃ as, Reads s.heap v d as) vs ds → (∀ d, d ∈ ds → ∃ xs, d = .tuple xs) →
    (∀ fs : List (Option Value), EachIs (fun f d => f.isSome = true ↔ ∃ x r, d = PyData.tuple (x :: r)) fs ds → Q fs s) → wpAny M A (vs.mapM firstOfTuple') Q E s
  | [], [], _, _, _, h => by rw [List.mapM_nil]; exact wpAny_pure (h [] .nil)
  | [], _ :: _, _, e, _, _ => by cases e
  | _ :: _, [], _, e, _, _ => by cases e
  | v :: vs, d :: ds, Q, .cons ⟨as, r⟩ t, ht, h => by
    obtain ⟨xs, rfl⟩ := ht d (List.mem_cons_self ..)
    cases r with
    | @tuple l o items n _ as₁ h1 h2 h3 h4 =>
      have n1 : items.size = xs.length := by simpa using ReadsAll.length _ _ _ h4
      rw [List.mapM_cons]
      refine wpAny_bind ?_
      rw [kas_first_eq]
      refine wpAny_bind (Looks.here (show Looks M s.heap (typeOf (.ref l)) o.cls from (Looks.ld h1).andThen .now) ?_)
      rw [h2, if_neg (by first | decide | simp)]
      refine wpAny_bind (listItems_at h1 h3 (wpAny_pure ?_))
      refine wpAny_bind (mapM_firsts vs ds (Q := fun bs s' => wpAny M A (pure (items[0]? :: bs)) Q E s') t (fun d hd => ht d (List.mem_cons_of_mem _ hd)) fun fs hf => wpAny_pure (h _ (.cons ?_ hf)))
      constructor
      · intro q
        cases xs with
        | nil =>
          have : items.size = 0 := n1
          rw [Array.getElem?_eq_none (by omega)] at q
          exact absurd q (by simp)
        | cons x r => exact ⟨x, r, rfl⟩
      · rintro ⟨x, r, e⟩
        injection e with e
        have : 0 < items.size := by rw [n1, e]; exact Nat.succ_pos _
        rw [Array.getElem?_eq_getElem this]
        rfl
theorem mapM_types {M : Model} {E : Value → Shared → Prop} : ∀ (vs : List Value) (ds : List PyData) {Q : List Value → Shared → Prop}, EachIs (fun v d => ∃ as, Reads s.heap v d as) vs ds → (∀ d, d ∈ ds → ∃ xs, d = .tuple xs) →
    Q (vs.map fun _ => Value.type "tuple") s → wpAny M A (vs.mapM typeOf) Q E s := by
  intro vs ds Q e ht h
  refine kas_mapM (r := Value.type "tuple") vs (fun v hv Q' hq => ?_) h
  obtain ⟨d, hd, as, r⟩ := e.left v hv
  obtain ⟨xs, rfl⟩ := ht d hd
  exact (looks_reads r).here hq
/-- tuples, an empty one among them: the kind is the general one or that of one type -/
theorem kind_mixed {M : Model} {E : Value → Shared → Prop} {vs : List Value} {ds : List PyData} {Q : SortKind → Shared → Prop} (e : EachIs (fun v d => ∃ as, Reads s.heap v d as) vs ds) (ht : ∀ d, d ∈ ds → ∃ xs, d = .tuple xs) (hx : PyData.tuple [] ∈ ds)
    (h : Q (match ds.head? with | some (.tuple (_ :: _)) => general' | _ => oneType') s) : wpAny M A (keyKind' vs.toArray) Q E s := by
  rw [keyKind'_eq, List.mapM_toArray, map_eq_pure_bind]
  refine wpAny_bind (wpAny_bind (mapM_firsts vs ds e ht fun fs hf => wpAny_pure ?_))
  have hno : ¬ (fs.toArray.all (·.isSome)) = true := by
    rw [List.all_toArray, List.all_eq_true]
    intro q
    obtain ⟨f, hf1, hf2⟩ := each_right hf _ hx
    obtain ⟨x, r, e⟩ := hf2.mp (q f hf1)
    exact absurd e (by simp)
  rw [if_neg hno]
  cases ds with
  | nil => exact absurd hx (by simp)
  | cons d ds =>
    cases fs with
    | nil => cases hf
    | cons f fs =>
      have hfd : f.isSome = true ↔ ∃ x r, d = PyData.tuple (x :: r) := by cases hf with | cons q _ => exact q
      have h0 : ((f :: fs).toArray[0]?.bind id) = f := by simp
      rw [h0]
      obtain ⟨xs, rfl⟩ := ht d (List.mem_cons_self ..)
      cases xs with
      | cons x r =>
        rw [if_pos (hfd.mpr ⟨x, r, rfl⟩)]
        exact wpAny_pure h
      | nil =>
        rw [if_neg (fun q => by obtain ⟨x, r, e⟩ := hfd.mp q; exact absurd e (by simp))]
        rw [oneTypeOnly'_eq, List.mapM_toArray, map_eq_pure_bind]
        refine wpAny_bind (wpAny_bind (wpAny_bind (mapM_types vs _ e ht (wpAny_pure ?_))))
        cases vs with
        | nil => cases e
        | cons v vs =>
          have hall : ((List.map (fun _ => Value.type "tuple") (v :: vs)).toArray.all fun x => x == Value.type "tuple") = true := by
            simp only [List.all_toArray, List.all_map, List.all_eq_true]
            intro _ _
            rfl
          have h1 : (List.map (fun _ => Value.type "tuple") (v :: vs)).toArray[0]? = some (Value.type "tuple") := by simp
          rw [h1]
          simp only [hall, if_true]
          exact wpAny_pure (wpAny_pure h)
/-- tuples can be sorted -/
theorem sorts_tuples {vs : List Value} {ds : List PyData} (e : EachIs (fun v d => ∃ as, Reads s.heap v d as) vs ds) (hal : AllAlike ds) (ht : ∀ d, d ∈ ds → ∃ xs, d = .tuple xs) (hu : ∀ d, d ∈ ds → A.units + d.depth < cLine) : SortsAt prog w A s (dataKind s.heap ds) vs := by
  by_cases hx : PyData.tuple [] ∈ ds
  · have room : ∀ {d d' : PyData}, d ∈ ds → A.units + min d.depth d'.depth < cLine := fun {d d'} hd => Nat.lt_of_le_of_lt (Nat.add_le_add_left (Nat.min_le_left _ _) _) (hu d hd)
    refine ⟨fun v hv => ?_, ?_⟩
    · obtain ⟨d, hd, as, r⟩ := e.left v hv
      exact ⟨_, dataKind_some hal hd r⟩
    · refine ⟨match ds.head? with | some (.tuple (_ :: _)) => general' | _ => oneType', ?_, fun _ E Q hq => kind_mixed e ht hx hq⟩
      intro E x y a b Q ha hb hq
      obtain ⟨d, as, hd, ra, rfl⟩ := dataKind_inv ha
      obtain ⟨d', as', hd', rb, rfl⟩ := dataKind_inv hb
      have hdd := hal d hd d' hd'
      have g1 : wpAny (model prog w) A (keyLt' general' x y) Q E s := oneLt_alike (f := false) (fun q => absurd q (by simp)) ra rb hdd (fun q => by obtain ⟨xs, e⟩ := ht d hd; rw [q] at e; exact absurd e (by simp)) (room hd) hq
      have g2 : wpAny (model prog w) A (keyLt' oneType' x y) Q E s := by
        rw [keyLt'_oneType]
        obtain ⟨xs, rfl⟩ := ht d hd
        obtain ⟨ys, rfl⟩ := ht d' hd'
        exact oneLt_tuple ra rb (by simpa [PySem.W.alike] using hdd) (room hd) hq
      split
      · exact g1
      · exact g2
  · exact SortsAt.data e hal (.inl fun d hd => by
      obtain ⟨xs, rfl⟩ := ht d hd
      cases xs with
      | nil => exact absurd hd hx
      | cons x r => exact ⟨x, r, rfl⟩) hu
theorem sorts_T {vs : List Value} {ds : List PyData} (e : EachIs (fun v d => ∃ as, Reads s.heap v d as) vs ds) (hal : AllAlike ds) (hk : SortT ds) (hu : ∀ d, d ∈ ds → A.units + d.depth < cLine) : SortsAt prog w A s (dataKind s.heap ds) vs :=
  hk.elim (fun q => SortsAt.data e hal q hu) fun q => sorts_tuples e hal q hu
end
section
variable {prog : Program} {w : World} {A : Around} {E : Value → Shared → Prop} {s : Shared} {β : Type} {vs : List Value} {bs : List β} {enc : β → PyData} {R : Value → β → Prop}
/-- xs.sort() -/
theorem list_sort_T {a : Addr} {n : Nat} {Q : Value → Shared → Prop} (ho : s.heap.get? a = some (seqObj "list" vs.toArray n)) (e : EachIs R vs bs) (er : EachIs (fun v b => ∃ as, Reads s.heap v (enc b) as ∧ a ∉ as) vs bs) (hal : AllAlike (bs.map enc)) (hk : SortT (bs.map enc)) (hL : bs.length ≤ sizeLine)
    (hu : ∀ b, b ∈ bs → A.units + 1 + (enc b).depth < cLine) (h : ∀ out, out.length = bs.length → EachIs R out (bs.mergeSort (dataLe false enc)) → Q .none { s with heap := sortedHeap s.heap a vs (List.toArray out) }) :
    wpAny (model prog w) A (call (.builtin "list.sort") [.ref a]) Q E s := by
  have er' : EachIs (fun v b => ∃ as, Reads (sortingHeap s.heap a vs) v (enc b) as) vs bs := each_keepBut (h' := sortingHeap s.heap a vs) (fun _ _ hb q => sortingHeap_old hb q) (fun o q => by rw [ho] at q; rw [← Option.some.inj q]) hal er
  refine wpAny_call_entry slot_list_sort ⟨_, ho, rfl⟩ entry_list_sort (list_sort_vals (κ := dataKind (sortingHeap s.heap a vs) (bs.map enc)) ho (sorts_T (s := { s with heap := sortingHeap s.heap a vs }) (each_map (R := fun v d => ∃ as, Reads (sortingHeap s.heap a vs) v d as) enc er') hal hk (bound_map hu)) (by rw [e.length]; exact hL) ⟨.none, rfl, ?_⟩) (args_list_sort _)
  exact h _ (by rw [sortVals_length false rfl]; exact e.length) (sortVals_data false e er' hal)
end
end Ws

/-! WsA: sorted(xs), lists and tuples of alike data; an insertion that sorts as well. -/
namespace Ws
open PySem PySem.Spec PyProof.Rows L2 PySem.W PySem.Calls

/-! ### insertion -/
section
variable {α : Type} (le : α → α → Bool)
def ins (x : α) : List α → List α
  | [] => [x]
  | y :: ys => if le x y then x :: y :: ys else y :: ins x ys
def isort : List α → List α
  | [] => []
  | x :: xs => ins le x (isort xs)
variable {le}
theorem ins_mem {x z : α} : ∀ {ys : List α}, z ∈ ins le x ys ↔ z = x ∨ z ∈ ys
  | [] => by simp [ins]
  | y :: ys => by
    rw [ins]
    split
    · simp
    · rw [List.mem_cons, ins_mem (ys := ys), List.mem_cons]
      constructor
      · rintro (h | h | h)
        · exact .inr (.inl h)
        · exact .inl h
        · exact .inr (.inr h)
      · rintro (h | h | h)
        · exact .inr (.inl h)
        · exact .inl h
        · exact .inr (.inr h)
theorem ins_sorted (h : TotalLe le) {x : α} : ∀ {ys : List α}, ys.Pairwise (fun a b => le a b = true) → (ins le x ys).Pairwise (fun a b => le a b = true)
  | [], _ => by simp [ins]
  | y :: ys, hp => by
    rw [ins]
    have hp' := List.pairwise_cons.mp hp
    split
    · rename_i e
      refine List.pairwise_cons.mpr ⟨fun z hz => ?_, hp⟩
      rcases List.mem_cons.mp hz with q | q
      · rw [q]; exact e
      · exact h.trans _ _ _ e (hp'.1 z q)
    · rename_i e
      refine List.pairwise_cons.mpr ⟨fun z hz => ?_, ins_sorted h hp'.2⟩
      rcases ins_mem.mp hz with q | q
      · rw [q]; exact (h.total y x).resolve_right e
      · exact hp'.1 z q
theorem ins_filter (h : TotalLe le) (c : α) {x : α} : ∀ {ys : List α}, (ins le x ys).filter (sameRank le c) = (x :: ys).filter (sameRank le c)
  | [] => rfl
  | y :: ys => by
    rw [ins]
    split
    · rfl
    · rename_i e
      have ih := ins_filter h c (x := x) (ys := ys)
      cases hx : sameRank le c x with
      | false =>
        rw [List.filter_cons_of_neg (by rw [hx]; exact Bool.false_ne_true)] at ih
        rw [List.filter_cons_of_neg (a := x) (by rw [hx]; exact Bool.false_ne_true), List.filter_cons, List.filter_cons, ih]
      | true =>
        have hy : sameRank le c y = false := by
          cases hy : sameRank le c y with
          | false => rfl
          | true =>
            simp only [sameRank, Bool.and_eq_true] at hx hy
            exact absurd (h.trans _ _ _ hx.2 hy.1) e
        have hy' : ¬ sameRank le c y = true := by rw [hy]; exact Bool.false_ne_true
        rw [List.filter_cons_of_pos hx] at ih ⊢
        rw [List.filter_cons_of_neg hy', List.filter_cons_of_neg hy', ih]
theorem isort_sorted (h : TotalLe le) : ∀ l : List α, (isort le l).Pairwise (fun a b => le a b = true)
  | [] => List.Pairwise.nil
  | x :: xs => ins_sorted h (isort_sorted h xs)
theorem isort_filter (h : TotalLe le) (c : α) : ∀ l : List α, (isort le l).filter (sameRank le c) = l.filter (sameRank le c)
  | [] => rfl
  | x :: xs => by
    rw [isort, ins_filter h c, List.filter_cons, List.filter_cons, isort_filter h c xs]
theorem isort_eq (h : TotalLe le) (l : List α) : isort le l = l.mergeSort le := sort_unique h (isort_sorted h l) fun c => isort_filter h c l
theorem isort_mem {z : α} : ∀ {l : List α}, z ∈ isort le l ↔ z ∈ l
  | [] => by simp [isort]
  | x :: xs => by rw [isort, ins_mem, isort_mem, List.mem_cons]
theorem isort_length : ∀ {l : List α}, (isort le l).length = l.length
  | [] => rfl
  | x :: xs => by
    have q : ∀ ys : List α, (ins le x ys).length = ys.length + 1 := by
      intro ys
      induction ys with
      | nil => rfl
      | cons y ys ih => rw [ins]; split <;> simp [ih]
    rw [isort, q, isort_length, List.length_cons]
end

/-! ### the items of a list or a tuple, gathered -/
section
variable {prog : Program} {w : World} {A : Around} {E : Value → Shared → Prop} {s : Shared}
theorem gather {p : Addr} {ty : String} {ob : Obj} {its : Array Value} {ep : Nat} {Q : List Value → Shared → Prop} (hT : ty = "list" ∨ ty = "tuple") (h1 : s.heap.get? p = some ob) (h2 : ob.cls = .type ty) (h3 : ob.data = .seq its ep) (hz : its.size ≤ sizeLine)
    (k : ∀ g : Heap, s.heap.objs.size ≤ g.objs.size → (∀ b o, s.heap.get? b = some o → g.get? b = some o) → Q its.toList { s with heap := g }) : wpAny (model prog w) A (collect (.ref p)) Q E s := by
  have new : (s.heap.push (seqObj "list" #[] 0)).get? s.heap.objs.size = some (seqObj "list" #[] 0) := Heap.get?_push_size _ rfl
  let g : Heap := (s.heap.push (seqObj "list" #[] 0)).update s.heap.objs.size (Obj.mapSeq (· ++ its))
  have fin : Q its.toList { s with heap := g } := by
    refine k g (by show _ ≤ g.objs.size; rw [Heap.size_update, size_push']; omega) fun b o q => ?_
    exact (Heap.get?_update_other _ _ (Nat.ne_of_gt (Heap.lt_size q))).trans (Heap.get?_push_of_some _ q)
  have last : wpAny (model prog w) A (load s.heap.objs.size >>= fun o => match o.data with | .seq xs _ => pure xs.toList | _ => unsupported "internal:collect") Q E { s with heap := g } :=
    wpAny_bind (wpAny_load (get?_update_seq new _) (by show wpAny _ _ (pure ((#[] : Array Value) ++ its).toList) Q E _; rw [Array.empty_append]; exact wpAny_pure fin))
  unfold collect
  refine wpAny_bind (wpAny_runValue (codeAny_builtin entry_proto_collect' ?_)); rw [Around.under_plainId F.plain_proto_collect _]
  refine wpAny_bind (wpAny_newList (wpAny_pure ⟨Code.quiet_builtin _ (by decide +kernel), codeAny_builtin entry_list_iadd' ?_⟩) (Nat.zero_le _)); rw [Around.under_plainId F.plain_list_iadd _]
  refine wpAny_mono (wpAny_extend_seq (A := A) (s := { s with heap := s.heap.push (seqObj "list" #[] 0) }) (R := fun r t => r = .ok (.ret (.ref s.heap.objs.size)) ∧ t = { s with heap := g }) s.heap.objs.size p (.ref s.heap.objs.size) 0 hT new (Heap.get?_push_of_some _ h1) h2 h3 ⟨rfl, rfl⟩ hz) (fun r t h => ?_) fun r t h => absurd (And.left h) (by simp)
  cases r with
  | done r =>
    obtain ⟨e1, e2⟩ := h
    cases e1; subst e2
    exact last
  | again c => exact ⟨h.1, codeAny_mono h.2 fun r t hr => by obtain ⟨rfl, rfl⟩ := hr; exact last⟩
end

/-! ### sorted of a list or a tuple: the items are gathered, then the new list is sorted in its place -/
section
variable {prog : Program} {w : World} {A : Around} {E : Value → Shared → Prop} {s : Shared} {β : Type} {vs : List Value} {bs : List β} {enc : β → PyData} {R : Value → β → Prop}
theorem sorted_sq {l : Addr} {ty : String} {ob : Obj} {ep : Nat} {Q : Value → Shared → Prop} (hT : ty = "list" ∨ ty = "tuple") (h1 : s.heap.get? l = some ob) (h2 : ob.cls = .type ty) (h3 : ob.data = .seq vs.toArray ep)
    (e : EachIs R vs bs) (er : EachIs (fun v b => ∃ as, Reads s.heap v (enc b) as) vs bs) (hal : AllAlike (bs.map enc)) (hk : SortT (bs.map enc)) (hL : bs.length ≤ sizeLine) (hu : ∀ b, b ∈ bs → A.units + 2 + (enc b).depth < cLine)
    (fin : ∀ (p : Addr) (out : List Value) (h' : Heap) (m : Nat), s.heap.objs.size ≤ p → (∀ b o, s.heap.get? b = some o → h'.get? b = some o) → out.length = bs.length → EachIs R out (bs.mergeSort (dataLe false enc)) → h'.get? p = some (seqObj "list" out.toArray m) → Q (.ref p) { s with heap := h' }) :
    wpAny (model prog w) A (call (.builtin "sorted") [.ref l]) Q E s := by
  have hv : vs.length ≤ sizeLine := by rw [e.length]; exact hL
  refine call_function_entry kind_sorted plain_sorted entry_sorted (args_sorted1 _) ?_
  unfold Builtin.«sorted»
  refine wpAny_bind (m := checkCount "sorted" 1 1 _) (wpAny_pure ?_)
  refine wpAny_bind (gather hT h1 h2 h3 (by simpa using hv) fun g hsz hg => ?_)
  refine wpAny_bind (wpAny_newList ?_ (by simpa using hv))
  have here : (g.push (seqObj "list" vs.toArray 0)).get? g.objs.size = some (seqObj "list" vs.toArray 0) := Heap.get?_push_size _ rfl
  have old : ∀ b o, s.heap.get? b = some o → (g.push (seqObj "list" vs.toArray 0)).get? b = some o := fun b o q => Heap.get?_push_of_some _ (hg b o q)
  refine wpAny_bind (wpAny_holding (list_sort_T (s := { s with heap := g.push (seqObj "list" vs.toArray 0) }) (enc := enc) here e ?_ hal hk hL (fun b hb => by have := hu b hb; show A.units + 1 + 1 + _ < _; omega) fun out n1 n2 => ?_))
  · refine er.mono fun v b ⟨as, r⟩ => ⟨as, PyProof.Rows.Reads.keeps (fun c o q => old c o q) r, fun hm => ?_⟩
    obtain ⟨o, q⟩ := PyProof.On.reads_mem_get r _ hm
    exact absurd (Heap.lt_size (hg _ _ q)) (Nat.lt_irrefl _)
  · obtain ⟨m, hm⟩ := sortedHeap_at (vs := vs) (out := out.toArray) here
    refine wpAny_pure ⟨_, rfl, fin g.objs.size out _ m hsz (fun b o q => ?_) n1 n2 hm⟩
    have hb := Heap.lt_size (hg b o q)
    exact (sortedHeap_old (Nat.ne_of_lt hb) (Heap.lt_size (old b o q))).trans (old b o q)
end

/-! ### the rule -/
/-- sorted(xs): a list or a tuple of alike data -/
def rSrt (K : PySem.W.Frag) : List V → Hp → VK → Prop := fun xs H Q => ∃ (p : Addr) (bs : List (V × PyData)), xs = [.ref p] ∧ (SqL K H p (bs.map (·.1)) ∨ SqT K H p (bs.map (·.1))) ∧ (∀ b ∈ bs, Dp K H b.1 b.2) ∧
  AllAlike (bs.map (·.2)) ∧ SortT (bs.map (·.2)) ∧ (∀ b ∈ bs, b.2.depth ≤ 60) ∧ ∀ q, H q = none → Q (.ref q) (upd H q (.lst ((bs.mergeSort (dataLe false (·.2))).map (·.1))))
theorem each_vals : ∀ {its : List Value} {bs : List (V × PyData)}, Vals (bs.map (·.1)) its → EachIs (fun v b => RelV b.1 v) its bs
  | _, [], r => by cases r; exact .nil
  | _, b :: bs, r => by
    have r' : Vals (b.1 :: bs.map (·.1)) _ := r
    cases r' with
    | cons h1 h2 => exact .cons h1 (each_vals h2)
theorem vals_each : ∀ {its : List Value} {bs : List (V × PyData)}, EachIs (fun v b => RelV b.1 v) its bs → Vals (bs.map (·.1)) its
  | _, _, .nil => .nil
  | _, _, .cons h1 h2 => .cons h1 (vals_each h2)
section
variable {X : Cx}
theorem cr_srt (hu : X.A.units + 64 < cLine) : CallR X (.builtin "sorted") (rSrt X.K) := by
  intro pins s σ H vs us Q I r h
  obtain ⟨p, bs, rfl, hs, hd, ha, hk, hdp, q⟩ := h
  rw [Vals.ref1 r]
  have hub : ∀ b, b ∈ bs → X.A.units + 2 + b.2.depth < cLine := fun b hb => by have := hdp b hb; omega
  have key : ∀ (its : List Value) (ty : String) (ob : Obj) (ep : Nat), Vals (bs.map (·.1)) its → (bs.map (·.1)).length ≤ sizeLine → (ty = "list" ∨ ty = "tuple") → s.heap.get? p = some ob → ob.cls = .type ty → ob.data = .seq its.toArray ep →
      wpAny (model X.prog X.w) X.A (call (.builtin "sorted") [.ref p]) (EP X pins σ Q) X.xe s := by
    intro its ty ob ep rv hz hT h1 h2 h3
    have e := each_vals rv
    have hl : bs.length ≤ sizeLine := by simpa using hz
    refine sorted_sq (R := fun v b => RelV b.1 v) (enc := fun b : V × PyData => b.2) hT h1 h2 h3 e ((each_mem e).mono fun v b hb => Dp.reads I _ _ _ (hd b hb.2) hb.1) ha hk hl hub fun a out h' m hsz hk' n1 n2 hm => ?_
    have hlen : ((bs.mergeSort (dataLe false (·.2))).map (·.1)).length ≤ sizeLine := by
      rw [List.length_map, List.length_mergeSort]; exact hl
    exact ⟨.ref _, upd H a (.lst ((bs.mergeSort (dataLe false (·.2))).map (·.1))), I.laid (t' := s.toks) (fun b o z => hk' b o z) hsz ⟨hlen, out, m, vals_each n2, hm⟩, rfl, q _ (I.hok.fresh hsz)⟩
  rcases hs with hs | hs
  · obtain ⟨its, rv, ⟨o, n, h1, h2, h3, h4⟩, hz⟩ := I.list hs
    exact key its "list" o n rv hz (.inl rfl) h1 h2 h4
  · obtain ⟨its, rv, ⟨o, h1, h2, n, h4⟩, hz⟩ := I.tuple hs
    exact key its "tuple" o n rv hz (.inr rfl) h1 h2 h4
end
/-! ### type(x) != T, of the same type -/
section
open PySem PySem.Spec PyProof.Rows
theorem slot_type_ne : Slot "type" (cmpInfo .NotEq).2.1 "object.__ne__" :=
  .of (owner := "object") (n := "__ne__") (by rw [typeLookup_type, builtinLookup_eq_fast]; kernel_rfl) (by decide +kernel) (by decide +kernel) (by decide +kernel)
    (by first | exact .inl (by decide +kernel) | exact .inr (by decide +kernel)) (by rw [isSubtype_type]; kernel_rfl)
variable {prog : Program} {w : World} {A : Around} {E : Value → Shared → Prop} {s : Shared} {Q : Value → Shared → Prop}
theorem ne_type_same {X : String} (hX : ∀ s' : Shared, s'.TypeIs (.type X) "type") (hu : A.units + 4 < cLine) (h : Q (.bool false) s) : wpAny (model prog w) A (compareOp .NotEq (.type X) (.type X)) Q E s := by
  show wpAny _ A (richCompare .NotEq _ _) Q E s
  refine wpAny_richCompare_same (T := "type") (hX s) (hX s) slot_type_ne ?_
  refine wpAny_call_entry slot_type_ne (hX s) F.cmpEntry_ne ?_ (F.cmpArgs_ne _ _)
  unfold Builtin.«object.__ne__»
  refine wpAny_bind (wpAny_of_eq (a := (Value.type X, [Value.type X])) (by first | rfl | kernel_rfl | (simp only [slotArgs]; rfl)) ?_)
  refine wpAny_bind (wpAny_cRoomFor (by show A.units + 1 < _; omega) ?_)
  refine wpAny_bind (wpAny_callSpecialIfBound?_slot (hX s) TypeEq.slot_type_eq ?_)
  refine call_gives TypeEq.slot_type_eq (hX s) F.entry_object_eq (F.args_object_eq_2 _ _) (TypeEq.object_eq_same rfl (by simp)) ?_
  refine wpAny_bind (wpAny_truthy_bool ?_)
  exact wpAny_pure ⟨_, rfl, (by intro z; cases z), h⟩
end
/-! ### min of a list of alike data -/
section
open PySem.W PySem.SeqAt
variable {prog : Program} {w : World} {A : Around} {E : Value → Shared → Prop} {s : Shared}
theorem min_list_at {l : Addr} {vs : Array Value} {x : PyData} {xs : List PyData} {as : List Addr} {Q : Value → Shared → Prop} (hh : A.handled = none) (hl : s.heap.IsList l vs) (hr : ReadsAll s.heap vs.toList (x :: xs) as) (ha : AlikeAll (x :: xs)) (hu : A.units + 1 + PyData.depthAll (x :: xs) < cLine)
    (h : ∀ (i : Nat) v h' tk, vs[i]? = some v → (x :: xs)[i]? = some (minD x xs) → (∀ b o, s.heap.get? b = some o → h'.get? b = some o) → Q v { s with heap := h', toks := tk }) :
    wpAny (model prog w) A (call (.builtin "min") [.ref l]) Q E s := by
  have hn : vs.size = xs.length + 1 := readsAll_len hr
  refine call_min_walkH (iter_listW (A := A.in1) hh hl fun s₂ e W st hfp hw hk => ?_)
  refine ⟨_, _, _, _, _, _, _, s.heap, _, rfl, W, st, hfp, by omega, hw, hk, cmpIn_lt (A := A.in1) hr ha (by show A.units + 1 + _ < _; exact hu), fun v s' hP m => ?_⟩
  obtain ⟨h', tk, rfl, hk'⟩ := moved_old e rfl m
  obtain ⟨bs, r, hi, _, _⟩ := readsAll_atA hr _ v hP
  have e1 : vs.size - 1 = xs.length := by omega
  have e2 := (argBest_fold dataLt PyData.none x xs xs.length (Nat.le_refl _)).2
  rw [List.take_length] at e2
  rw [e1] at hi
  refine h _ v h' tk hP ?_ hk'
  rw [e1, List.getElem?_eq_getElem hi]
  rw [List.getD_eq_getElem?_getD, List.getElem?_eq_getElem hi, Option.getD_some] at e2
  rw [e2]; rfl
end
def rMinD (K : PySem.W.Frag) : List V → Hp → VK → Prop := fun xs H Q => ∃ (p : Addr) (ws : List V) (d : PyData) (ds : List PyData), xs = [.ref p] ∧ SqL K H p ws ∧ DpAll K H ws (d :: ds) ∧ PySem.W.AlikeAll (d :: ds) ∧ PyData.depthAll (d :: ds) ≤ 60 ∧
  ∀ (i : Nat) (v : V), ws[i]? = some v → (d :: ds)[i]? = some (PySem.W.minD d ds) → Q v H
theorem valsGetV : ∀ {xs : List V} {us : List Value} {i : Nat} {u : Value}, Vals xs us → us[i]? = some u → ∃ x, xs[i]? = some x ∧ RelV x u
  | _, _, _, _, .nil, e => by simp at e
  | _, _, 0, _, .cons r _, e => by simp at e; subst e; exact ⟨_, rfl, r⟩
  | _, _, i + 1, u, .cons _ t, e => by
    obtain ⟨x, h1, h2⟩ := valsGetV (i := i) t (by simpa using e)
    exact ⟨x, by simpa using h1, h2⟩
theorem cr_minD {X : Cx} (hc : X.calm = true) (hu : X.A.units + 64 < cLine) : CallR X (.builtin "min") (rMinD X.K) := by
  intro pins s σ H vs us Q I r h
  obtain ⟨p, ws, d, ds, rfl, hs, hd, ha, hdp, q⟩ := h
  obtain ⟨its, rv, hl, _⟩ := I.list hs
  rw [Vals.ref1 r]
  obtain ⟨as, hr⟩ := Dp.readsAll I _ _ _ hd rv
  refine min_list_at (I.ok.hd hc) hl.isList (by simpa using hr) ha (by omega) fun i v h' tk hv hi hk => ?_
  obtain ⟨w, hw, rw'⟩ : ∃ w, ws[i]? = some w ∧ RelV w v := by
    have hv' : its[i]? = some v := by simpa using hv
    exact valsGetV rv hv'
  exact ⟨w, H, I.kept (t' := tk) hk, rw', q i w hw hi⟩
/-! ### in a tuple of data; the less of two alike ones -/
def rInDT (K : PySem.W.Frag) : R2 := fun x y H Q => ∃ d ds, Dp K H x d ∧ (Dp K H y (.list ds) ∨ Dp K H y (.tuple ds)) ∧ SeqAt.shaped d = true ∧ PyData.canLayAll0 ds = true ∧ Q (.bl (ds.any fun z => PyData.eqv z d)) H
def rNiDT (K : PySem.W.Frag) : R2 := fun x y H Q => ∃ d ds, Dp K H x d ∧ (Dp K H y (.list ds) ∨ Dp K H y (.tuple ds)) ∧ SeqAt.shaped d = true ∧ PyData.canLayAll0 ds = true ∧ Q (.bl (!ds.any fun z => PyData.eqv z d)) H
def rLtD (K : PySem.W.Frag) : R2 := fun x y H Q => ∃ d e, Dp K H x d ∧ Dp K H y e ∧ PySem.W.alike d e = true ∧ d ≠ .none ∧ d.depth ≤ 60 ∧ Q (.bl (PySem.W.dataLt d e)) H
def rGtD (K : PySem.W.Frag) : R2 := fun x y H Q => ∃ d e, Dp K H x d ∧ Dp K H y e ∧ PySem.W.alike d e = true ∧ d ≠ .none ∧ d.depth ≤ 60 ∧ Q (.bl (PySem.W.dataLt e d)) H
section
variable {X : Cx}
theorem op_inDT (hu : X.A.units + 65 < cLine) : OpR X (compareOp .In) (rInDT X.K) := by
  intro pins s σ H x y v u Q I rx ry ⟨d, ds, hd, he, sd, se, q⟩
  have room := room_in_shaped (xs := ds) sd hu
  obtain ⟨as, r1⟩ := Dp.reads I _ _ _ hd rx
  rcases he with he | he
  · obtain ⟨bs, r2⟩ := Dp.reads I _ _ _ he ry
    exact SeqAt.in_list_reads r2 r1 se (SeqAt.canLay_of_shaped sd) room ⟨.bl _, H, I, rfl, q⟩
  · obtain ⟨bs, r2⟩ := Dp.reads I _ _ _ he ry
    exact SeqAt.in_tuple_reads r2 r1 se (SeqAt.canLay_of_shaped sd) room ⟨.bl _, H, I, rfl, q⟩
theorem op_niDT (hu : X.A.units + 65 < cLine) : OpR X (compareOp .NotIn) (rNiDT X.K) := by
  intro pins s σ H x y v u Q I rx ry ⟨d, ds, hd, he, sd, se, q⟩
  have room := room_in_shaped (xs := ds) sd hu
  obtain ⟨as, r1⟩ := Dp.reads I _ _ _ hd rx
  rcases he with he | he
  · obtain ⟨bs, r2⟩ := Dp.reads I _ _ _ he ry
    exact SeqAt.notIn_list_reads r2 r1 se (SeqAt.canLay_of_shaped sd) room ⟨.bl _, H, I, rfl, q⟩
  · obtain ⟨bs, r2⟩ := Dp.reads I _ _ _ he ry
    exact SeqAt.notIn_tuple_reads r2 r1 se (SeqAt.canLay_of_shaped sd) room ⟨.bl _, H, I, rfl, q⟩
theorem op_ltD (hu : X.A.units + 64 < cLine) : OpR X (compareOp .Lt) (rLtD X.K) := by
  intro pins s σ H x y v u Q I rx ry ⟨d, e, hd, he, ha, hn, hl, q⟩
  obtain ⟨as, r1⟩ := Dp.reads I _ _ _ hd rx
  obtain ⟨bs, r2⟩ := Dp.reads I _ _ _ he ry
  exact PySem.W.rcLt_alike d e X.A s v u as bs r1 r2 ha hn (by omega) _ _ _ _ ⟨.bl _, H, I, rfl, q⟩
theorem op_gtD (hu : X.A.units + 64 < cLine) : OpR X (compareOp .Gt) (rGtD X.K) := by
  intro pins s σ H x y v u Q I rx ry ⟨d, e, hd, he, ha, hn, hl, q⟩
  obtain ⟨as, r1⟩ := Dp.reads I _ _ _ hd rx
  obtain ⟨bs, r2⟩ := Dp.reads I _ _ _ he ry
  exact PySem.W.rcGt_alike d e X.A s v u as bs r1 r2 ha hn (by omega) _ _ _ _ ⟨.bl _, H, I, rfl, q⟩
end
end Ws

/-! WsB: t[::-1] of a tuple. -/
namespace Ws
open PySem PySem.Spec PyProof.Rows L2 HT

theorem adj_rev (n : Nat) : Builtin.Slice.sliceAdjust none none (-1) (n : Int) = ((n : Int) - 1, -1) := by
  unfold Builtin.Slice.sliceAdjust
  simp
theorem places_rev (n : Nat) : Builtin.Slice.slicePlaces ((n : Int) - 1) (-1) (-1) = n := by
  unfold Builtin.Slice.slicePlaces
  simp
  omega
theorem pick_rev (xs : List Value) : ((List.range xs.length).filterMap fun m : Nat => xs[(((xs.length : Int) - 1) + (m : Int) * (-1)).toNat]?) = xs.reverse := by
  have h1 : ∀ k, k ≤ xs.length → ((List.range k).filterMap fun m : Nat => xs[(((xs.length : Int) - 1) + (m : Int) * (-1)).toNat]?) = xs.reverse.take k := by
    intro k
    induction k with
    | zero => intro _; rfl
    | succ k ih =>
      intro hk
      have hlt : xs.length - 1 - k < xs.length := by omega
      have e : (((xs.length : Int) - 1) + (k : Int) * (-1)).toNat = xs.length - 1 - k := by omega
      rw [List.range_succ, List.filterMap_append, ih (by omega), List.take_succ]
      congr 1
      have e1 : xs[(((xs.length : Int) - 1) + (k : Int) * (-1)).toNat]? = some xs[xs.length - 1 - k] := by rw [e]; exact List.getElem?_eq_getElem hlt
      rw [List.filterMap_cons, e1, List.filterMap_nil, List.getElem?_reverse (by omega), List.getElem?_eq_getElem hlt]
      rfl
  rw [h1 xs.length (Nat.le_refl _)]
  exact List.take_of_length_le (by rw [List.length_reverse]; exact Nat.le_refl _)
section
variable {prog : Program} {w : World} {A : Around} {E : Value → Shared → Prop} {s : Shared}
theorem applied_rev {sl : Addr} {t : Tok} {n : Nat} {Q : Int × Int × Nat → Shared → Prop} (hs : s.heap.IsSliceOf sl .none .none (.int (-1) t)) (h : Q ((n : Int) - 1, -1, n) s) : wpAny (model prog w) A (Builtin.Slice.sliceApplied (.ref sl) (pure (n : Int))) Q E s := by
  obtain ⟨os, hos, _, hds⟩ := id hs
  unfold Builtin.Slice.sliceApplied Builtin.Slice.sliceFields
  refine wpAny_bind (wpAny_bind (wpAny_field hos hds (x := .none) rfl (wpAny_bind (wpAny_field hos hds (x := .none) rfl (wpAny_bind (wpAny_field hos hds (x := .int (-1) t) rfl (wpAny_pure ?_)))))))
  refine wpAny_bind (slicePart_int ?_)
  show wpAny _ _ (if ((-1 : Int) == 0) = true then _ else _) _ _ s
  rw [if_neg (by decide)]
  refine wpAny_bind (slicePart_none (wpAny_bind (slicePart_none (wpAny_bind (wpAny_pure ?_)))))
  show wpAny _ _ (match Builtin.Slice.sliceAdjust none none (-1) (n : Int) with | (a, b) => pure (a, (-1 : Int), Builtin.Slice.slicePlaces a b (-1))) _ _ s
  rw [adj_rev]
  show wpAny _ _ (pure ((n : Int) - 1, (-1 : Int), Builtin.Slice.slicePlaces ((n : Int) - 1) (-1) (-1))) _ _ s
  rw [places_rev]
  exact wpAny_pure h
theorem getItem_rev {p sl : Addr} {its : List Value} {t : Tok} {Q : Value → Shared → Prop} (ht : IsTup s.heap p its.toArray) (hs : s.heap.IsSliceOf sl .none .none (.int (-1) t)) (hz : its.length ≤ sizeLine)
    (h : Q (.ref s.heap.objs.size) { s with heap := s.heap.push { cls := .type "tuple", data := .seq its.reverse.toArray } }) : wpAny (model prog w) A (getItem (.ref p) (.ref sl)) Q E s := by
  obtain ⟨os, hos, hcs, _⟩ := id hs
  have hTs : s.TypeIs (.ref sl) "slice" := ⟨os, hos, hcs⟩
  have hok : sizeOk (.seq its.reverse.toArray) := by show its.reverse.toArray.size ≤ sizeLine; simpa using hz
  unfold getItem
  try with_reducible refine wpAny_holding ?_
  first | refine wpAny_bind (wpAny_pure ?_) | skip
  refine wpAny_bind (wpAny_sequenceKey ht.typeIs (by decide) (wpAny_bind (wpAny_callSpecial?_slot (name := Str.ofString "__getitem__") ht.typeIs slot_tuple_getitem (wpAny_call_entry slot_tuple_getitem ht.typeIs entry_tuple_getitem ?_ (args_tuple_getitem _ _)))))
  show wpAny _ _ (Builtin.Tuple.tupleItemsOf (.ref p) >>= _) _ _ s
  refine wpAny_bind (tupleItemsOf_ ht (wpAny_bind (wpAny_typeOf hTs ?_)))
  rw [if_pos (by decide)]
  refine wpAny_bind (applied_rev hs ?_)
  have hno : ¬ (((((its.toArray.size : Nat) : Int) - 1) == 0 && (-1 : Int) == 1 && its.toArray.size == its.toArray.size) = true) := by simp
  show wpAny _ _ (if ((((its.toArray.size : Nat) : Int) - 1) == 0 && (-1 : Int) == 1 && its.toArray.size == its.toArray.size) = true then _ else _) _ _ s
  rw [if_neg hno]
  have e : ((List.range its.toArray.size).filterMap fun m : Nat => its.toArray[(((its.toArray.size : Nat) : Int) - 1 + (m : Int) * (-1)).toNat]?).toArray = its.reverse.toArray := by
    have := pick_rev its
    simp only [List.size_toArray, List.getElem?_toArray]
    rw [this]
  rw [e]
  first
    | exact wpAny_bind (m := Builtin.Tuple.tupleExact _) (wpAny_newObj_type (wpAny_pure ⟨_, rfl, wpAny_pure h⟩) hok)
    | exact wpAny_bind (m := Builtin.Tuple.tupleExact _) (wpAny_newObj_type (wpAny_bind (wpAny_pure (wpAny_pure ⟨_, rfl, wpAny_pure h⟩))) hok)
    | exact wpAny_bind (wpAny_bind (m := Builtin.Tuple.tupleExact _) (wpAny_newObj_type (wpAny_pure (wpAny_pure ⟨_, rfl, wpAny_pure h⟩)) hok))
    | exact wpAny_bind (wpAny_bind (m := Builtin.Tuple.tupleExact _) (wpAny_newObj_type (wpAny_pure ⟨_, rfl, wpAny_pure h⟩) hok))
end
/-- t[::-1], a tuple -/
def tRevT (K : PySem.W.Frag) (te : TE) : TE := fun σ H Q => te σ H fun x H1 => ∃ p xs, x = .ref p ∧ SqT K H1 p xs ∧ ∀ q, H1 q = none → Q (.ref q) (L2.upd H1 q (.tup xs.reverse))
theorem pe_revT {X : Cx} {e : Expr} {te : TE} {k : Nat} {p1 p2 p3 pos : Pos} (he : PE X e te) : PE X (.Subscript e (.Slice none none (some (.UnaryOp .USub (.Constant (.int 1) k p1) p2)) p3) pos) (tRevT X.K te) := by
  refine ⟨fun pins s σ H Q I h => Subscript_ (thn (he.run pins s σ H _ I h) fun v s1 ⟨x, H1, I1, r1, p, xs, ex, hx, q⟩ => ?_)⟩
  subst ex; cases r1
  have step : PO X (some (.UnaryOp .USub (.Constant (.int 1) k p1) p2)) (tPart (tUn (rU fun i => .int (-i)) (tC (.int 1)))) := po_some (pe_un un_neg pe_int)
  refine wpAny_Slice (thn (po_none.run pins s1 σ H1 (fun o G => o = none ∧ G = H1) I1 ⟨rfl, rfl⟩) fun v1 s2 ⟨o1, G1, I2, w1, d1, d2⟩ => ?_)
  subst d1 d2; cases w1
  refine thn (po_none.run pins s2 σ G1 (fun o G => o = none ∧ G = G1) I2 ⟨rfl, rfl⟩) fun v2 s3 ⟨o2, G2, I3, w2, d1, d2⟩ => ?_
  subst d1 d2; cases w2
  refine thn (step.run pins s3 σ G2 (fun o G => o = some (-1) ∧ G = G2) I3 ⟨1, rfl, -1, rfl, rfl, rfl⟩) fun v3 s4 ⟨o3, G3, I4, w3, d1, d2⟩ => ?_
  subst d1 d2; cases w3
  rename_i tk _
  have I5 : L2.Inv X pins σ G3 { s4 with heap := s4.heap.push { cls := .type "slice", data := .fields #[.none, .none, .int (-1) tk] } } := I4.kept (t' := s4.toks) fun b ob z => Heap.get?_push_of_some _ z
  obtain ⟨its, rv, ht, hz⟩ := I5.tuple hx
  have hl := rv.length
  show wpAny (model X.prog X.w) X.A (subscriptTail e (.Slice none none (some (.UnaryOp .USub (.Constant (.int 1) k p1) p2)) p3) (.ref p) (.ref s4.heap.objs.size)) (EP X pins σ Q) X.xe { s4 with heap := s4.heap.push { cls := .type "slice", data := .fields #[.none, .none, .int (-1) tk] } }
  refine tail_any (ops := [.ref p, .ref s4.heap.objs.size]) ht.typeIs slot_tuple_getitem.lookup (getItem_rev ht (Heap.IsSliceOf.new _ .none .none (.int (-1) tk)) (by omega) ?_) (by with_unfolding_all rfl)
  exact ⟨.ref _, _, I5.laid (t' := s4.toks) (o := .tup xs.reverse) (fun b ob z => Heap.get?_push_of_some _ z) (Nat.le_refl _) ⟨by rw [List.length_reverse]; exact hz, _, rv.reverse, IsTup.new _ _⟩, rfl, q _ (I5.hok.fresh (Nat.le_refl _))⟩
end Ws

/-! WsD: set(xs) of a list of whole numbers, sorted. -/
namespace Ws
open PySem PySem.Spec PyProof.Rows L2

theorem call_set_listI {P : Program} {w : World} {A : Around} {E : Value → Shared → Prop} {s : Shared} {l : Addr} {items : Array Value} (ns : List Int) {Q : Value → Shared → Prop} (hh : A.handled = none) (hl : s.heap.IsList l items) (hit : IntsAre items.toList ns) (hb : ns.length + 1 < scanBound)
    (hQ : ∀ (h' : Heap) (tk c : Nat), SetR w h' s.heap.objs.size (fun j => decide (j ∈ ns)) c → c ≤ ns.length → (∀ (b : Addr) (o : Obj), s.heap.get? b = some o → h'.get? b = some o) → Q (.ref s.heap.objs.size) { heap := h', gens := s.gens, drawn := s.drawn, toks := tk, os := s.os }) :
    wpAny (model P w) A (call (.type "set") [.ref l]) Q E s := by
  have hisz : items.size = ns.length := by
    have q := hit.length
    rwa [Array.length_toList] at q
  obtain ⟨c, tl, hmro⟩ := F.called_set.mro
  have hmade := F.called_set.made
  have hsub := F.called_set.sub
  refine wpAny_call (codeAny_of_tree ?_)
  refine wpAny_pure ⟨Code.quiet_builtin _ (by decide +kernel), codeAny_builtin F.entry_type_call ?_⟩
  rw [Around.under_plain (weight_type_call_type "set" [.ref l] []) rfl]
  have h1 := F.called_set.notType
  have h2 := F.called_set.canCreate
  have hct := F.typeCall_set_1 (.ref l)
  show wpAny (model P w) A.in1 (Builtin.«type.__call__» { pos := [.type "set", .ref l] }) _ _ s
  unfold Builtin.«type.__call__»
  dsimp only
  refine wpAny_ite_false (by rfl) ?_
  refine wpAny_ite_false (by rfl) ?_
  refine wpAny_bind (wpAny_of_eq hct ?_)
  refine wpAny_bind (wpAny_of_eq hmro ?_)
  refine wpAny_ite_false (by rfl) ?_
  refine wpAny_bind (wpAny_of_eq hmade ?_)
  dsimp only
  refine wpAny_bind (wpAny_pure ?_)
  refine wpAny_bind (wpAny_holding (wpAny_call (codeAny_mono (code_set_led1 (E := E) (Q₁ := fun v s₁ => v = .ref s.heap.objs.size ∧ s₁ = { heap := s.heap.push { cls := .type "set", data := .set #[] 0 (SetTable.fresh 0 0 !w.params.followText "set-order") }, gens := s.gens, drawn := s.drawn, toks := s.toks, os := s.os }) (.ref l) ⟨rfl, rfl⟩) fun r s₁ hr => ?_)))
  cases r with
  | error e => exact hr
  | ok f =>
  cases f with
  | ret v =>
    obtain ⟨rfl, rfl⟩ := (show v = _ ∧ s₁ = _ from hr)
    dsimp only
    have hS := Heap.get?_push_size (o := { cls := .type "set", data := .set #[] 0 (SetTable.fresh 0 0 !w.params.followText "set-order") }) s.heap rfl
    have hT : ({ heap := s.heap.push { cls := .type "set", data := .set #[] 0 (SetTable.fresh 0 0 !w.params.followText "set-order") }, gens := s.gens, drawn := s.drawn, toks := s.toks, os := s.os } : Shared).TypeIs (.ref s.heap.objs.size) "set" := ⟨_, hS, rfl⟩
    have hli := F.called_set.init.lookup
    have hbi := F.called_set.init.bind (.ref s.heap.objs.size)
    refine wpAny_bind (wpAny_isInstance hT hsub ?_)
    refine wpAny_ite_false rfl ?_
    refine wpAny_bind (wpAny_holding ?_)
    show wpAny _ _ (callSpecial? (.ref s.heap.objs.size) (Str.ofString "__init__") [.ref l]) _ _ _
    unfold callSpecial?
    refine wpAny_bind (wpAny_specialOf hT hli ?_)
    dsimp only
    refine wpAny_holding ?_
    refine wpAny_bind (wpAny_of_eq hbi ?_)
    refine wpAny_bind ?_
    refine wpAny_call (codeAny_mono (R := fun r s' => ∃ (h' : Heap) (tk c : Nat), r = .ok (.ret .none) ∧ s' = { heap := h', gens := s.gens, drawn := s.drawn, toks := tk, os := s.os } ∧ SetR w h' s.heap.objs.size (fun j => decide (j ∈ ns)) c ∧ c ≤ ns.length ∧ ∀ (b : Addr) (o : Obj), s.heap.get? b = some o → h'.get? b = some o) (codeAny_call_builtin F.called_set.init.plain F.entry_set_init (check_set_init_1 hT ?_)) fun r s' hr => ?_)
    rotate_left
    · obtain ⟨h', tk, c, rfl, rfl, g1, g2, g3⟩ := hr
      dsimp only
      refine wpAny_pure ?_
      dsimp only
      refine wpAny_ite_false rfl ?_
      refine wpAny_pure ?_
      exact hQ h' tk c g1 g2 g3
    · clear hr
      generalize hs1 : ({ heap := s.heap.push { cls := .type "set", data := .set #[] 0 (SetTable.fresh 0 0 !w.params.followText "set-order") }, gens := s.gens, drawn := s.drawn, toks := s.toks, os := s.os } : Shared) = s1 at hT ⊢
      unfold Builtin.«set.__init__»
      refine wpAny_bind ?_
      unfold noKeywords
      refine wpAny_ite_true rfl (wpAny_pure ?_)
      dsimp only [List.cons_append, List.nil_append]
      refine wpAny_bind ?_
      unfold typeNameOfCut
      refine wpAny_bind ?_
      unfold shownTypeOf
      refine wpAny_bind (wpAny_typeOf hT ?_)
      refine wpAny_ite_false rfl ?_
      refine wpAny_pure ?_
      refine wpAny_of_eq (t := typeNameCut 200 (.type "set")) (a := "set") rfl ?_
      refine wpAny_bind ?_
      unfold checkCount
      refine wpAny_ite_false rfl ?_
      refine wpAny_ite_false rfl ?_
      refine wpAny_ite_false rfl (wpAny_pure ?_)
      refine wpAny_bind (wpAny_pure ?_)
      refine wpAny_bind ?_
      have hused : ∀ (QQ : Bool → Shared → Prop) (EE : Value → Shared → Prop) (AA : Around), QQ false s1 → wpAny (model P w) AA (setUsed s.heap.objs.size) QQ EE s1 := by
        intro QQ EE AA hq
        subst hs1
        unfold setUsed
        refine wpAny_bind ?_
        unfold setState
        refine wpAny_bind (wpAny_load' hS ?_)
        dsimp only
        refine wpAny_ite_false rfl ?_
        exact wpAny_pure (wpAny_pure hq)
      refine hused _ _ _ ?_
      refine wpAny_ite_false rfl ?_
      refine wpAny_bind ?_
      unfold Builtin.Frozenset.updateFrom
      have hTl : s1.TypeIs (.ref l) "list" := by
        obtain ⟨o, q1, q2, q3⟩ := hl
        subst hs1
        exact ⟨o, Heap.get?_push_of_some _ q1, q2⟩
      refine wpAny_bind ?_
      unfold Builtin.Frozenset.isAnySet
      unfold orM
      refine wpAny_bind (wpAny_isInstance hTl F.sub_list_set ?_)
      show wpAny _ _ (isInstance (.ref l) (.type "frozenset")) _ _ _
      refine wpAny_isInstance hTl F.sub_list_frozenset ?_
      refine wpAny_ite_false rfl ?_
      refine wpAny_bind (wpAny_typeOf hTl ?_)
      refine wpAny_ite_false rfl ?_
      obtain ⟨n, hl1⟩ : ∃ n, s1.heap.IsList l items := ⟨0, by
        subst hs1
        obtain ⟨o, q1, q2, q3⟩ := hl
        exact ⟨o, Heap.get?_push_of_some _ q1, q2, q3⟩⟩
      refine wpAny_bind (wpAny_pyIter_list hl1 ?_)
      refine wpAny_bind (wpAny_runValue ?_)
      have hsz : s1.heap.objs.size = s.heap.objs.size + 1 := by subst hs1; exact Heap.size_push _ _
      have hS1 : s1.heap.get? s.heap.objs.size = some { cls := .type "set", data := .set #[] 0 (SetTable.fresh 0 0 !w.params.followText "set-order") } := by subst hs1; exact hS
      have hll : l < s.heap.objs.size := by obtain ⟨o, q1, _⟩ := hl; exact Heap.lt_size q1
      have hne : (l : Addr) ≠ s1.heap.objs.size := by
        intro e
        rw [e, hsz] at hll
        exact Nat.lt_irrefl _ (Nat.lt_of_succ_lt hll)
      have hit' : ∀ (i : Nat) (v : Value), items[i]? = some v → ∃ k t, ns[i]? = some k ∧ v = .int k t := by
        intro i v h
        have h' : items.toList[i]? = some v := by rw [Array.getElem?_toList]; exact h
        obtain ⟨t, e⟩ := hit.int_at i v h'
        have hi : i < ns.length := by
          have := (List.getElem?_eq_some_iff.mp h').1
          rw [Array.length_toList, hisz] at this
          exact this
        exact ⟨_, t, List.getElem?_eq_getElem hi, by rw [e, List.getD_eq_getElem?_getD, List.getElem?_eq_getElem hi]; rfl⟩
      refine set_update_ints (Walks.toS (Walks.list (A := A.in1.in1.in1) hh s1.heap.objs.size l hne items)) s.heap.objs.size ?_ ns hisz hb hit' items.size 0 _ rfl (Nat.zero_le _) ?_ ⟨0, Nat.le_refl _, setR_new_at (Heap.get?_push_of_some _ hS1)⟩ fun s' c m1 m2 m3 => ?_
      · simp only [List.mem_cons, List.not_mem_nil, or_false]
        rintro (e | e)
        · rw [hsz] at e; exact absurd e (Nat.ne_of_lt (Nat.lt_succ_self _))
        · rw [← e] at hll; exact absurd hll (Nat.lt_irrefl _)
      · exact ⟨⟨_, Heap.get?_push_size _ rfl, rfl, rfl⟩, hl1.push _⟩
      · dsimp only
        refine wpAny_pure (wpAny_pure ⟨s'.heap, s'.toks, c, rfl, ?_, m3, by rw [← hisz]; exact m2, fun b o q => ?_⟩)
        · have g1 := m1.gens
          have g2 := m1.drawn
          have g3 := m1.os
          subst hs1
          cases s'
          dsimp only at g1 g2 g3 ⊢
          rw [g1, g2, g3]
        · have hb1 : s1.heap.get? b = some o := by subst hs1; exact Heap.get?_push_of_some _ q
          have hlt := Heap.lt_size q
          refine m1.heap b o ?_ (Heap.get?_push_of_some _ hb1)
          simp only [List.mem_cons, List.not_mem_nil, or_false]
          rintro (e | e)
          · rw [e] at hlt; exact absurd hlt (Nat.lt_irrefl _)
          · rw [e, hsz] at hlt; exact absurd hlt (by simp)
  | _ => exact hr
theorem ints_vals : ∀ {ns : List Int} {its : List Value}, Vals (ns.map V.int) its → IntsAre its ns
  | [], _, r => by cases r; exact .nil
  | n :: ns, _, r => by
    have r' : Vals (V.int n :: ns.map V.int) _ := r
    cases r' with
    | cons h1 h2 =>
      obtain ⟨t, rfl⟩ := (show ∃ t, _ = Value.int n t from h1)
      exact .cons _ _ (ints_vals h2)
theorem setO_is {P : Program} {w : World} {H : Hp} {h : Heap} {a : Addr} {S : Int → Bool} {n : Nat} (z : SetR w h a S n) : ObjOk P w H h a (SetO w a S n) := by
  unfold SetO ObjOk
  refine ⟨z, ?_, fun h1 h2 z k => ?_⟩
  · obtain ⟨o, es, ep, t, e, _⟩ := z
    exact ⟨o, e⟩
  · obtain ⟨o, es, ep, t, e, r⟩ := z
    exact ⟨o, es, ep, t, k o e, r⟩
/-- set(xs) -/
def rSetI (K : PySem.W.Frag) (w : World) : List V → Hp → VK → Prop := fun xs H Q => ∃ (l : Addr) (ns : List Int), xs = [.ref l] ∧ SqL K H l (ns.map V.int) ∧ ns.length ≤ 1000 ∧ ∀ p c, H p = none → c ≤ ns.length → Q (.ref p) (upd H p (SetO w p (fun j => decide (j ∈ ns)) c))
theorem cr_setI {X : Cx} (hc : X.calm = true) : CallR X (.type "set") (rSetI X.K X.w) := by
  intro pins s σ H vs us Q I r h
  obtain ⟨l, ns, rfl, hs, hn, q⟩ := h
  rw [Vals.ref1 r]
  obtain ⟨its, rv, ⟨o, n, h1, h2, h3, h4⟩, hz⟩ := I.list hs
  have hit : IntsAre its ns := ints_vals rv
  refine call_set_listI (items := its.toArray) ns (I.ok.hd hc) ⟨o, h1, h2, n, h4⟩ (by simpa using hit) (by unfold scanBound; omega) fun h' tk c g1 g2 g3 => ?_
  exact ⟨.ref _, upd H s.heap.objs.size (SetO X.w s.heap.objs.size (fun j => decide (j ∈ ns)) c), I.laid (t' := tk) g3 (Nat.le_refl _) (setO_is g1), rfl, q _ c (I.hok.fresh (Nat.le_refl _)) g2⟩
/-! ### rising, each once -/
def insU (x : Int) : List Int → List Int
  | [] => [x]
  | y :: ys => if x < y then x :: y :: ys else if x = y then y :: ys else y :: insU x ys
def setI (l : List Int) : List Int := l.foldr insU []
theorem mem_insU {x z : Int} : ∀ {ys : List Int}, z ∈ insU x ys ↔ z = x ∨ z ∈ ys
  | [] => by simp [insU]
  | y :: ys => by
    rw [insU]
    split
    · simp
    · split
      · rename_i h; subst h; simp
      · rw [List.mem_cons, mem_insU, List.mem_cons]
        constructor
        · rintro (h | h | h) <;> simp [h]
        · rintro (h | h | h) <;> simp [h]
theorem pw_insU {x : Int} : ∀ {ys : List Int}, ys.Pairwise (· < ·) → (insU x ys).Pairwise (· < ·)
  | [], _ => by simp [insU]
  | y :: ys, h => by
    obtain ⟨h1, h2⟩ := List.pairwise_cons.mp h
    rw [insU]
    split
    · rename_i hx
      refine List.pairwise_cons.mpr ⟨fun z hz => ?_, h⟩
      rcases List.mem_cons.mp hz with rfl | hz
      · exact hx
      · exact Int.lt_trans hx (h1 z hz)
    · split
      · exact h
      · refine List.pairwise_cons.mpr ⟨fun z hz => ?_, pw_insU h2⟩
        rcases mem_insU.mp hz with rfl | hz
        · omega
        · exact h1 z hz
theorem mem_setI {z : Int} : ∀ {l : List Int}, z ∈ setI l ↔ z ∈ l
  | [] => Iff.rfl
  | x :: l => by
    show z ∈ insU x (setI l) ↔ _
    rw [mem_insU, mem_setI, List.mem_cons]
theorem pw_setI : ∀ {l : List Int}, (setI l).Pairwise (· < ·)
  | [] => .nil
  | x :: l => pw_insU (x := x) (pw_setI (l := l))
theorem pw_uniq : ∀ {a b : List Int}, a.Pairwise (· < ·) → b.Pairwise (· < ·) → (∀ z, z ∈ a ↔ z ∈ b) → a = b
  | [], [], _, _, _ => rfl
  | [], y :: b, _, _, h => by have := (h y).mpr List.mem_cons_self; simp at this
  | x :: a, [], _, _, h => by have := (h x).mp List.mem_cons_self; simp at this
  | x :: a, y :: b, ha, hb, h => by
    obtain ⟨a1, a2⟩ := List.pairwise_cons.mp ha
    obtain ⟨b1, b2⟩ := List.pairwise_cons.mp hb
    have e : x = y := by
      rcases List.mem_cons.mp ((h x).mp List.mem_cons_self) with e | m
      · exact e
      · rcases List.mem_cons.mp ((h y).mpr List.mem_cons_self) with e | m'
        · exact e.symm
        · have := b1 x m
          have := a1 y m'
          omega
    subst e
    congr 1
    refine pw_uniq a2 b2 fun z => ?_
    constructor
    · intro m
      rcases List.mem_cons.mp ((h z).mp (List.mem_cons_of_mem _ m)) with e | m'
      · subst e; exact absurd (a1 z m) (Int.lt_irrefl _)
      · exact m'
    · intro m
      rcases List.mem_cons.mp ((h z).mpr (List.mem_cons_of_mem _ m)) with e | m'
      · subst e; exact absurd (b1 z m) (Int.lt_irrefl _)
      · exact m'
end Ws

/-! Ws2: the program's text in short (CE, CS), and what it is worth (evE, evS). -/
namespace Ws
open PySem L2

inductive BOp where | add | sub | mul | mod | fdiv | pow
  deriving DecidableEq
inductive COp where | eq | ne | lt | le | gt | ge | isN | isNN | mem | nmem | isB | isNB
  deriving DecidableEq
/-- built-ins by name -/
inductive Bi where | len | all | any | sum | list | tuple | sorted | min2 | max2 | min1 | max1 | abs | int | type | isi | mind
  deriving DecidableEq
/-- targets -/
inductive Tg where
  | nm (i : Nat)
  | tp (l : List Nat)
  | ns (l : List Nat) (j : Nat)
mutual
inductive CE where
  | non | bl (b : Bool) | int (i : Int) | str (s : Str) | ty (n : String)
  | var (i : Nat) | glo (x : Str)
  | tup (l : List CE) | lst (l : List CE)
  | bin (o : BOp) (a b : CE) | neg (a : CE)
  | not (a : CE) | and (a b : CE) | or (a b : CE)
  | cmp (o : COp) (a b : CE) | chain (o o' : COp) (a b c : CE)
  | ite (c a b : CE)
  | idx (a i : CE) | sli (a : CE) (lo hi : Option CE) | rev (a : CE)
  | call (f : Str) (l : List CE) | bi (b : Bi) (l : List CE)
  | comp (elt : CE) (tg : Tg) (it : CI) (ifs : Option CE) (own : List (Str × Nat))
  /-- two clauses -/
  | comp2 (elt : CE) (tg : Tg) (it : CI) (ifs : Option CE) (tg1 : Tg) (it1 : CI) (ifs1 : Option CE) (own : List (Str × Nat))
  /-- list, tuple (t) of a range -/
  | rg1 (t : Bool) (b : CE) | rg2 (t : Bool) (a b : CE)
  | gcd (a b : CE)
  /-- sorted(set(a)) -/
  | sset (a : CE)
  /-- (*a, ..), [*a, ..] -/
  | cat (t : Bool) (a : CE) (l : List CE)
  /-- len of a set of whole numbers, by two clauses -/
  | nsc (elt : CE) (tg : Tg) (it : CI) (tg1 : Tg) (it1 : CI) (own : List (Str × Nat))
  /-- len(set(a)) -/
  | lset (a : CE)
inductive CI where
  | seq (e : CE) | rng1 (b : CE) | rng2 (a b : CE) | zip (a b : CE)
  /-- combinations of a range, of a list or tuple -/
  | cb1 (b m : CE) | cb2 (a b m : CE) | cbl (e m : CE)
  | enum (e : CE)
end
inductive CS where
  | asg (t : Tg) (e : CE)
  /-- a name that holds the new list of e alone -/
  | asgO (i : Nat) (e : CE)
  /-- the list of i is changed no more -/
  | frz (i : Nat)
  | app (i : Nat) (e : CE)
  | ext (i : Nat) (e : CE)
  | setI (i : Nat) (k e : CE)
  /-- the stream's cell (1) or place (2) -/
  | sset (i : Nat) (j : Int) (e : CE)
  | augI (i : Nat) (k e : CE)
  | aug (i : Nat) (o : BOp) (e : CE)
  | ife (c : CE) (a b : List CS)
  | for_ (t : Tg) (it : CI) (b : List CS)
  | ret (e : CE)
  | retO (i : Nat)
  | par (i j : Nat) (a b : CE)
  /-- f(..).append(e): what f returns is dropped -/
  | drop (f : Str) (l : List CE) (e : CE)
  | exp (e : CE)
  /-- names[i].pop(e), dropped -/
  | popx (i : Nat) (e : CE)
  | stop
  /-- raise C(..): no normal end -/
  | rse (c : Str) (l : List CE)
  | pass
  /-- [i.pop(e) for tg in it], wrapped by w, the outermost first; stored (t), or returned -/
  | pop (t : Option Nat) (w : List Bi) (i : Nat) (e : CE) (tg : Nat) (it : CI) (own : List (Str × Nat))

/-! ### values -/
def PV.seq? : PV → Option (List PV)
  | .tup l => some l
  | .lst l => some l
  | .own l => some l
  | _ => none
def PV.lst? : PV → Option (List PV)
  | .lst l => some l
  | .own l => some l
  | _ => none
def ints? : List PV → Option (List Int)
  | [] => some []
  | .int i :: r => (ints? r).map (i :: ·)
  | _ :: _ => none
def bls? : List PV → Option (List Bool)
  | [] => some []
  | .bl i :: r => (bls? r).map (i :: ·)
  | _ :: _ => none
/-- a bound for the lengths of what is made -/
def LIM : Nat := 1000000
/-- truth -/
def PV.tru : PV → Option Bool
  | .non => some false
  | .bl b => some b
  | .int i => some (i != 0)
  | .tup l => some (!l.isEmpty)
  | .lst l => some (!l.isEmpty)
  | .own l => some (!l.isEmpty)
  | _ => none
mutual
def PV.pd : PV → Option PyData
  | .non => some .none
  | .bl b => some (.bool b)
  | .int i => some (.int i)
  | .str s => some (.str s)
  | .tup l => (PV.pds l).map .tuple
  | .lst l => (PV.pds l).map .list
  | .own l => (PV.pds l).map .list
  | _ => none
def PV.pds : List PV → Option (List PyData)
  | [] => some []
  | x :: xs => (PV.pd x).bind fun d => (PV.pds xs).map (d :: ·)
end
def eqD (x y : PV) : Option Bool :=
  match x.pd, y.pd with
  | some d, some e => if SeqAt.shaped d && SeqAt.shaped e then some (PyData.eqv d e) else none
  | _, _ => none
def knownTy (n : String) : Bool := n == "NoneType" || n == "bool" || n == "int" || n == "str" || n == "tuple" || n == "list"
def eqP (x y : PV) : Option Bool :=
  match x, y with
  | .int i, .int j => some (decide (i = j))
  | .ty n, .ty m => if knownTy n && knownTy m then some (n == m) else none
  | x, y => eqD x y
def neP (x y : PV) : Option Bool :=
  match x, y with
  | .ty n, .ty m => if knownTy n && n == m then some false else none
  | x, y => (eqP x y).map (!·)
mutual
/-- data as a plain value -/
def ofD : PyData → PV
  | .none => .non
  | .bool b => .bl b
  | .int i => .int i
  | .str s => .str s
  | .list l => .lst (ofDs l)
  | .tuple l => .tup (ofDs l)
  | .dict _ => .stm
def ofDs : List PyData → List PV
  | [] => []
  | d :: ds => ofD d :: ofDs ds
end
def noNone : PyData → Bool
  | .none => false
  | _ => true
/-- min of a list of alike data -/
def mnV (l : List PV) : Option PV := (PV.pds l).bind fun ds => match ds with
  | [] => none
  | d :: r => if (d :: r).all (fun x => (d :: r).all (PySem.W.alike x)) && (d :: r).all noNone && decide (PyData.depthAll (d :: r) ≤ 60) then some (ofD (PySem.W.minD d r)) else none
def isTup1 : PyData → Bool
  | .tuple _ => true
  | _ => false
def isOt : PyData → Bool
  | .none => false
  | .tuple _ => false
  | _ => true
def srtLe (p q : PV × PyData) : Bool := !PySem.W.dataLt q.2 p.2
/-- sorted: alike data -/
def srtV (l : List PV) : Option (List PV) := (PV.pds l).bind fun ds =>
  if ds.all (fun d => ds.all (PySem.W.alike d)) && (ds.all isTup1 || ds.all isOt) && ds.all (fun d => decide (d.depth ≤ 60)) then some ((isort srtLe (l.zip ds)).map (·.1)) else none
/-- flat things, for in -/
def PV.flat1 : PV → Bool
  | .non => true | .bl _ => true | .int _ => true | .str _ => true | _ => false
def eqF : PV → PV → Bool
  | .non, .non => true
  | .bl a, .bl b => a == b
  | .bl a, .int b => (if a then 1 else 0) == b
  | .int a, .bl b => a == (if b then 1 else 0)
  | .int a, .int b => a == b
  | .str a, .str b => a == b
  | _, _ => false
def memD (x : PV) (l : List PV) : Option Bool :=
  match x.pd, PV.pds l with
  | some d, some ds => if SeqAt.shaped d && PyData.canLayAll0 ds then some (ds.any fun z => PyData.eqv z d) else none
  | _, _ => none
def memV (x : PV) (l : List PV) : Option Bool := if x.flat1 && l.all PV.flat1 then some (l.any fun y => eqF y x) else memD x l
def notNone : PyData → Bool
  | .none => false
  | _ => true
def ltD (x y : PV) : Option Bool :=
  match x.pd, y.pd with
  | some d, some e => if PySem.W.alike d e && notNone d && decide (d.depth ≤ 60) then some (PySem.W.dataLt d e) else none
  | _, _ => none
def gtD (x y : PV) : Option Bool :=
  match x.pd, y.pd with
  | some d, some e => if PySem.W.alike d e && notNone d && decide (d.depth ≤ 60) then some (PySem.W.dataLt e d) else none
  | _, _ => none
def cmpV (o : COp) (x y : PV) : Option Bool :=
  match o with
  | .eq => eqP x y
  | .ne => neP x y
  | .lt => match x, y with | .int i, .int j => some (decide (i < j)) | x, y => ltD x y
  | .le => match x, y with | .int i, .int j => some (decide (i ≤ j)) | _, _ => none
  | .gt => match x, y with | .int i, .int j => some (decide (j < i)) | x, y => gtD x y
  | .ge => match x, y with | .int i, .int j => some (decide (j ≤ i)) | _, _ => none
  | .isN => match y with | .non => some (match x with | .non => true | _ => false) | _ => none
  | .isNN => match y with | .non => some (match x with | .non => false | _ => true) | _ => none
  | .mem => y.seq?.bind (memV x)
  | .nmem => (y.seq?.bind (memV x)).map (!·)
  | .isB => match x, y with | .bl a, .bl b => some (decide (a = b)) | _, _ => none
  | .isNB => match x, y with | .bl a, .bl b => some (!decide (a = b)) | _, _ => none
def sml (i : Int) : Bool := decide (-(2 ^ 64) < i) && decide (i < 2 ^ 64)
def catL : Option (List PV) → Option (List PV) → Option PV
  | some a, some b => if a.length + b.length ≤ LIM then some (.lst (a ++ b)) else none
  | _, _ => none
def repL : Option (List PV) → Int → Option PV
  | some a, k => if decide (-(2 ^ 62) ≤ k) && decide (k < 2 ^ 62) && decide (a.length * k.toNat ≤ LIM) then some (.lst (List.replicate k.toNat a).flatten) else none
  | none, _ => none
def repT (l : List PV) (k : Int) : Option PV := if !l.isEmpty && decide (2 ≤ k) && decide (k ≤ 1000) && decide (l.length ≤ 1000) then some (.tup (List.replicate k.toNat l).flatten) else none
def binV (o : BOp) (x y : PV) : Option PV :=
  match o with
  | .add => match x, y with
    | .int i, .int j => some (.int (i + j))
    | .tup a, .tup b => if a.length + b.length ≤ LIM then some (.tup (a ++ b)) else none
    | x, y => catL x.lst? y.lst?
  | .sub => match x, y with | .int i, .int j => some (.int (i - j)) | _, _ => none
  | .mul => match x, y with
    | .int i, .int j => if sml i || sml j then some (.int (i * j)) else none
    | .tup l, .int k => repT l k
    | x, .int k => repL x.lst? k
    | _, _ => none
  | .mod => match x, y with | .int i, .int j => if decide (0 < j) then some (.int (i % j)) else none | _, _ => none
  | .fdiv => match x, y with | .int i, .int j => if decide (0 < j) && decide (j < 1073741824) then some (.int (i / j)) else none | _, _ => none
  | .pow => match x, y with | .int i, .int j => if decide (0 ≤ j) && decide (j ≤ 100) && decide (i.natAbs < 2 ^ 64) then some (.int (i ^ j.toNat)) else none | _, _ => none
def idxV (x y : PV) : Option PV :=
  match x.seq?, y with
  | some l, .int i => atI l i
  | _, _ => none
/-- an item of the stream: the script, the cell, the place -/
def stmV : Strm → PV → Option PV
  | some (scr, _, _), .int 0 => some (.lst (scr.map PV.int))
  | some (_, c, _), .int 1 => some (.int c)
  | some (_, _, k), .int 2 => some (.int k)
  | _, _ => none
def idxS (S : Strm) (x y : PV) : Option PV :=
  match x with
  | .stm => stmV S y
  | _ => idxV x y
def cutP (xs : List PV) (lo hi : Option Int) : List PV := (xs.drop (HT.sIx xs.length 0 lo)).take (HT.sIx xs.length xs.length hi - HT.sIx xs.length 0 lo)
def sliV (x : PV) (lo hi : Option Int) : Option PV :=
  match x with
  | .tup l => some (.tup (cutP l lo hi))
  | .lst l => some (.lst (cutP l lo hi))
  | .own l => some (.lst (cutP l lo hi))
  | _ => none
def tyName : PV → Option String
  | .non => some "NoneType"
  | .bl _ => some "bool"
  | .int _ => some "int"
  | .str _ => some "str"
  | .tup _ => some "tuple"
  | .lst _ => some "list"
  | .own _ => some "list"
  | _ => none
def minL : List Int → Option Int
  | [] => none
  | x :: l => some (l.foldl (fun a b => if b < a then b else a) x)
def maxL : List Int → Option Int
  | [] => none
  | x :: l => some (l.foldl (fun a b => if a < b then b else a) x)
def biV (b : Bi) (l : List PV) : Option PV :=
  match b, l with
  | .len, [x] => x.seq?.map fun l => .int l.length
  | .all, [x] => (x.lst?.bind bls?).map fun l => .bl (l.all id)
  | .any, [x] => (x.lst?.bind bls?).map fun l => .bl (l.any id)
  | .sum, [x] => (x.lst?.bind ints?).map fun l => .int l.sum
  | .list, [x] => x.seq?.map .lst
  | .tuple, [x] => x.seq?.map .tup
  | .min2, [.int i, .int j] => some (.int (if j < i then j else i))
  | .max2, [.int i, .int j] => some (.int (if j > i then j else i))
  | .min1, [x] => ((x.lst?.bind ints?).bind minL).map .int
  | .max1, [x] => ((x.lst?.bind ints?).bind maxL).map .int
  | .sorted, [x] => (x.seq?.bind srtV).map .lst
  | .mind, [x] => x.lst?.bind mnV
  | .abs, [.int i] => some (.int (if i < 0 then -i else i))
  | .int, [.int i] => some (.int i)
  | .int, [.bl k] => some (.int (if k then 1 else 0))
  | .type, [x] => (tyName x).map .ty
  | .isi, [x, .ty n] => (tyName x).bind fun m => (kitB m n).map .bl
  | _, _ => none
/-- a handed list: it is read alone -/
def PV.thaw : PV → PV
  | .own l => .lst l
  | x => x

/-! ### what a def is worth -/
inductive Out where
  | ret (x : PV)
  | exc (c : Str) (xs : List PV)
abbrev Fn := List PV → Strm → Option (Out × Strm)
structure Tbl where
  fn : Str → Option (Nat × Fn)
  glo : Str → Option Int

def bindT (t : Tg) (x : PV) (env : Env) : Option Env :=
  match t with
  | .nm i => if x.isOwn then none else some (env.set i (some x))
  | .tp l => match x with
    | .tup xs => if xs.length = l.length then some ((l.zip xs).foldl (fun e p => e.set p.1 (some p.2)) env) else none
    | .lst xs => if xs.length = l.length then some ((l.zip xs).foldl (fun e p => e.set p.1 (some p.2)) env) else none
    | _ => none
  | .ns l j => match x with
    | .tup [.tup xs, y] => if xs.length = l.length then some (((l.zip xs).foldl (fun e p => e.set p.1 (some p.2)) env).set j (some y)) else none
    | _ => none
def tgIx : Tg → List Nat
  | .nm i => [i]
  | .tp l => l
  | .ns l j => l ++ [j]
def wipeE (env : Env) : List Nat → Env
  | [] => env
  | v :: vs => (wipeE env vs).set v none

def evL (ev : CE → Strm → Option (PV × Strm)) : List CE → Strm → Option (List PV × Strm)
  | [], S => some ([], S)
  | e :: es, S => (ev e S).bind fun r => (evL ev es r.2).map fun q => (r.1 :: q.1, q.2)
/-- the items of a comprehension, one after another -/
def compL (step : PV → Strm → Option (Option PV × Strm)) : List PV → Strm → Option (List PV × Strm)
  | [], S => some ([], S)
  | x :: xs, S => (step x S).bind fun r => (compL step xs r.2).map fun q => (match r.1 with | some y => y :: q.1 | none => q.1, q.2)
def rangeV (i j : Int) : List PV := (List.range (j - i).toNat).map fun (k : Nat) => PV.int (i + (k : Int))
def inR (i : Int) : Bool := decide (-(2 ^ 62) ≤ i) && decide (i < 2 ^ 62)
def zipV (xs ys : List PV) : List PV := (xs.zip ys).map fun p => PV.tup [p.1, p.2]

def revV (r : PV × Strm) : Option (PV × Strm) :=
  match r.1 with
  | .tup l => some (.tup l.reverse, r.2)
  | .lst l => some (.lst l.reverse, r.2)
  | .own l => some (.lst l.reverse, r.2)
  | _ => none
def gcdV (r q : PV × Strm) : Option (PV × Strm) :=
  match r.1, q.1 with
  | .int i, .int j => some (.int ((Nat.gcd i.natAbs j.natAbs : Nat) : Int), q.2)
  | _, _ => none
/-- sorted(set(x)) of whole numbers -/
def stuV (r : PV × Strm) : Option (PV × Strm) :=
  (r.1.lst?.bind ints?).bind fun l => if l.length ≤ 63 then some (.lst ((setI l).map .int), r.2) else none
def lsetV (r : PV × Strm) : Option (PV × Strm) :=
  (r.1.seq?.bind ints?).bind fun l => if l.length ≤ 63 then some (.int (setI l).length, r.2) else none
def nscV (r : List PV × Strm) : Option (PV × Strm) :=
  (ints? r.1).bind fun l => if l.length ≤ 63 then some (.int (setI l).length, r.2) else none
def catQ (t : Bool) (x : PV) (q : List PV × Strm) : Option (PV × Strm) :=
  if x.isOwn then none else x.seq?.bind fun xs => if q.1.all (fun y => !y.isOwn) && decide (xs.length + q.1.length ≤ LIM) then some (if t then .tup (xs ++ q.1) else .lst (xs ++ q.1), q.2) else none
def rgS (t : Bool) (i j : Int) : Option PV := if inR i && inR j && decide ((j - i).toNat ≤ LIM) then some (if t then .tup (rangeV i j) else .lst (rangeV i j)) else none
def rgV1 (t : Bool) (r : PV × Strm) : Option (PV × Strm) :=
  match r.1 with
  | .int j => (rgS t 0 j).map fun x => (x, r.2)
  | _ => none
def rgV2 (t : Bool) (r q : PV × Strm) : Option (PV × Strm) :=
  match r.1, q.1 with
  | .int i, .int j => (rgS t i j).map fun x => (x, q.2)
  | _, _ => none
/-- the next indices of a combination; all that come from these on, at most so many -/
def nextC (n : Nat) (indices : List Nat) : Option (List Nat) :=
  let r := indices.length
  match (List.range r).reverse.find? fun i => indices.getD i 0 != i + n - r with
  | none => none
  | some i => some (indices.take i ++ (List.range (r - i)).map (indices.getD i 0 + 1 + ·))
def cbFrom (n : Nat) : Nat → Option (List Nat) → Option (List (List Nat))
  | _, none => some []
  | 0, some _ => none
  | f + 1, some j => (cbFrom n f (nextC n j)).map (j :: ·)
def cbAll (n r : Nat) : Option (List (List Nat)) := cbFrom n 100000 (if r > n then none else some (List.range r))
def combV (xs : List PV) (k : Int) : Option (List PV) := if decide (0 ≤ k) && decide (k ≤ 1000) then (cbAll xs.length k.toNat).map fun js => js.map fun j => .tup (j.map fun i => xs.getD i .non) else none
def cbR (i j : Int) (q : PV × Strm) : Option (List PV × Strm) :=
  match q.1 with
  | .int k => if inR i && inR j && decide ((j - i).toNat ≤ LIM) then (combV (rangeV i j) k).map fun l => (l, q.2) else none
  | _ => none
def enumV (xs : List PV) : List PV := (List.range xs.length).map fun (i : Nat) => PV.tup [.int i, xs.getD i .non]
/-- what is walked -/
def itV (ok : Bool) (ev : CE → Strm → Option (PV × Strm)) (it : CI) (S : Strm) : Option (List PV × Strm) :=
  match it with
  | .seq e => (ev e S).bind fun r => if ok || !r.1.isOwn then r.1.seq?.map fun l => (l, r.2) else none
  | .rng1 b => (ev b S).bind fun r => match r.1 with | .int j => if inR j then some (rangeV 0 j, r.2) else none | _ => none
  | .rng2 a b => (ev a S).bind fun r => (ev b r.2).bind fun q => match r.1, q.1 with | .int i, .int j => if inR i && inR j then some (rangeV i j, q.2) else none | _, _ => none
  | .cb1 b m => (ev b S).bind fun r => match r.1 with | .int j => (ev m r.2).bind (cbR 0 j) | _ => none
  | .cb2 a b m => (ev a S).bind fun r => (ev b r.2).bind fun q => match r.1, q.1 with | .int i, .int j => (ev m q.2).bind (cbR i j) | _, _ => none
  | .cbl e m => (ev e S).bind fun r => if r.1.isOwn then none else (ev m r.2).bind fun q => match r.1.seq?, q.1 with | some l, .int k => (combV l k).map fun l => (l, q.2) | _, _ => none
  | .enum e => (ev e S).bind fun r => if ok || !r.1.isOwn then r.1.lst?.map fun l => (enumV l, r.2) else none
  | .zip a b => (ev a S).bind fun r => (ev b r.2).bind fun q => match r.1, q.1 with
    | .tup x, .tup y => some (zipV x y, q.2)
    | x, y => if ok || !(x.isOwn || y.isOwn) then (match x.lst?, y.lst? with | some x, some y => some (zipV x y, q.2) | _, _ => none) else none
/-- one item of a comprehension -/
def stepV (ev : CE → Env → Strm → Option (PV × Strm)) (elt : CE) (tg : Tg) (ifs : Option CE) (env : Env) (x : PV) (S : Strm) : Option (Option PV × Strm) :=
  (bindT tg x env).bind fun e1 =>
    (match ifs with | none => some (true, S) | some d => (ev d e1 S).bind fun r => r.1.tru.map fun b => (b, r.2) : Option (Bool × Strm)).bind fun k =>
      if k.1 then (ev elt e1 k.2).bind fun r => if r.1.isOwn then none else some (some r.1, r.2) else some (none, k.2)
def testV (ev : CE → Env → Strm → Option (PV × Strm)) (ifs : Option CE) (e1 : Env) (S : Strm) : Option (Bool × Strm) :=
  match ifs with
  | none => some (true, S)
  | some d => (ev d e1 S).bind fun r => r.1.tru.map fun b => (b, r.2)
/-- the items of two clauses -/
def compLL (step : PV → Strm → Option (List PV × Strm)) : List PV → Strm → Option (List PV × Strm)
  | [], S => some ([], S)
  | x :: xs, S => (step x S).bind fun r => (compLL step xs r.2).map fun q => (r.1 ++ q.1, q.2)
/-- one item of the first clause -/
def step2V (ev : CE → Env → Strm → Option (PV × Strm)) (elt : CE) (tg : Tg) (ifs : Option CE) (tg1 : Tg) (it1 : CI) (ifs1 : Option CE) (env : Env) (x : PV) (S : Strm) : Option (List PV × Strm) :=
  (bindT tg x env).bind fun e1 => (testV ev ifs e1 S).bind fun k =>
    if k.1 then (itV false (fun e S => ev e e1 S) it1 k.2).bind fun its => compL (stepV ev elt tg1 ifs1 (wipeE e1 (tgIx tg1))) its.1 its.2 else some ([], k.2)
/-- a part of a slice -/
def parV (ev : CE → Strm → Option (PV × Strm)) (e : Option CE) (S : Strm) : Option (Option Int × Strm) :=
  match e with
  | none => some (none, S)
  | some e => (ev e S).bind fun q => match q.1 with | .int i => some (some i, q.2) | _ => none

section
variable (T : Tbl)
def evE : Nat → CE → Env → Strm → Option (PV × Strm)
  | 0, _, _, _ => none
  | n + 1, c, env, S =>
    match c with
    | .non => some (.non, S)
    | .bl b => some (.bl b, S)
    | .int i => some (.int i, S)
    | .str s => some (.str s, S)
    | .ty s => some (.ty s, S)
    | .var i => match env[i]? with
      | some (some x) => some (x, S)
      | _ => none
    | .glo x => (T.glo x).map fun i => (.int i, S)
    | .tup l => (evL (fun e S => evE n e env S) l S).bind fun r => if r.1.all (fun x => !x.isOwn) && decide (r.1.length ≤ LIM) then some (.tup r.1, r.2) else none
    | .lst l => (evL (fun e S => evE n e env S) l S).bind fun r => if r.1.all (fun x => !x.isOwn) && decide (r.1.length ≤ LIM) then some (.lst r.1, r.2) else none
    | .bin o a b => (evE n a env S).bind fun r => (evE n b env r.2).bind fun q => (binV o r.1 q.1).map fun x => (x, q.2)
    | .neg a => (evE n a env S).bind fun r => match r.1 with | .int i => some (.int (-i), r.2) | _ => none
    | .not a => (evE n a env S).bind fun r => r.1.tru.map fun b => (.bl (!b), r.2)
    | .and a b => (evE n a env S).bind fun r => match r.1 with
      | .bl true => evE n b env r.2
      | .bl false => some (.bl false, r.2)
      | _ => none
    | .or a b => (evE n a env S).bind fun r => match r.1 with
      | .bl true => some (.bl true, r.2)
      | .bl false => evE n b env r.2
      | .lst l => if l.isEmpty then evE n b env r.2 else some (.lst l, r.2)
      | _ => none
    | .cmp o a b => (evE n a env S).bind fun r => (evE n b env r.2).bind fun q => (cmpV o r.1 q.1).map fun x => (.bl x, q.2)
    | .chain o o' a b d => (evE n a env S).bind fun r => (evE n b env r.2).bind fun q => (cmpV o r.1 q.1).bind fun x =>
      if x then (evE n d env q.2).bind fun u => (cmpV o' q.1 u.1).map fun y => (.bl y, u.2) else some (.bl false, q.2)
    | .ite d a b => (evE n d env S).bind fun r => r.1.tru.bind fun x => if x then evE n a env r.2 else evE n b env r.2
    | .idx a i => (evE n a env S).bind fun r => (evE n i env r.2).bind fun q => (idxS q.2 r.1 q.1).map fun x => (x, q.2)
    | .sli a lo hi => (evE n a env S).bind fun r => (parV (fun e S => evE n e env S) lo r.2).bind fun u => (parV (fun e S => evE n e env S) hi u.2).bind fun v => (sliV r.1 u.1 v.1).map fun x => (x, v.2)
    | .rev a => (evE n a env S).bind revV
    | .call f l => (T.fn f).bind fun φ => (evL (fun e S => evE n e env S) l S).bind fun r => if r.1.length = φ.1 then (φ.2 (r.1.map PV.thaw) r.2).bind fun q =>
      match q.1 with
      | .ret x => if r.1.all (fun x => !x.isOwn) || (x.flat && (r.2.isSome || q.2.isNone)) then some (x, q.2) else none
      | .exc _ _ => none
      else none
    | .bi b l => (evL (fun e S => evE n e env S) l S).bind fun r => (biV b r.1).map fun x => (x, r.2)
    | .rg1 t b => (evE n b env S).bind (rgV1 t)
    | .rg2 t a b => (evE n a env S).bind fun r => (evE n b env r.2).bind fun q => rgV2 t r q
    | .sset a => (evE n a env S).bind stuV
    | .lset a => (evE n a env S).bind lsetV
    | .cat t a l => (evE n a env S).bind fun r => (evL (fun e S => evE n e env S) l r.2).bind fun q => catQ t r.1 q
    | .nsc elt tg it tg1 it1 own => (itV true (fun e S => evE n e env S) it S).bind fun its =>
        (compLL (step2V (fun e env S => evE n e env S) elt tg none tg1 it1 none (wipeE env (own.map (·.2)))) its.1 its.2).bind nscV
    | .gcd a b => (evE n a env S).bind fun r => (evE n b env r.2).bind fun q => gcdV r q
    | .comp elt tg it ifs own => (itV true (fun e S => evE n e env S) it S).bind fun its =>
      if its.1.length ≤ LIM then
        (compL (stepV (fun e env S => evE n e env S) elt tg ifs (wipeE env (own.map (·.2)))) its.1 its.2).map fun r => (.lst r.1, r.2)
      else none
    | .comp2 elt tg it ifs tg1 it1 ifs1 own => (itV true (fun e S => evE n e env S) it S).bind fun its =>
        (compLL (step2V (fun e env S => evE n e env S) elt tg ifs tg1 it1 ifs1 (wipeE env (own.map (·.2)))) its.1 its.2).bind fun r => if r.1.length ≤ LIM then some (.lst r.1, r.2) else none
def evI (n : Nat) (it : CI) (env : Env) (S : Strm) : Option (List PV × Strm) := itV false (fun e S => evE T n e env S) it S
end

/-! ### statements -/
inductive Fl where
  | nx (env : Env)
  | rt (x : PV)
def isFresh : CE → Bool
  | .lst _ => true
  | .comp _ _ _ _ _ => true
  | .bi .list _ => true
  | .bin .mul _ _ => true
  | .bin .add _ _ => true
  | .rg1 false _ => true
  | _ => false
/-- the turns of a for -/
def forL (step : PV → Env → Strm → Option (Fl × Strm)) : List PV → Env → Strm → Option (Fl × Strm)
  | [], env, S => some (.nx env, S)
  | x :: xs, env, S => (step x env S).bind fun r => match r.1 with
    | .nx env' => forL step xs env' r.2
    | .rt v => some (.rt v, r.2)
def seqL (ev : CS → Env → Strm → Option (Fl × Strm)) : List CS → Env → Strm → Option (Fl × Strm)
  | [], env, S => some (.nx env, S)
  | c :: cs, env, S => (ev c env S).bind fun r => match r.1 with
    | .nx env' => seqL ev cs env' r.2
    | .rt v => some (.rt v, r.2)
def ownAt (env : Env) (i : Nat) : Option (List PV) := match env[i]? with | some (some (.own l)) => some l | _ => none
/-- one item popped -/
def popS (ev : CE → Env → Strm → Option (PV × Strm)) (e : CE) (tg i : Nat) (vs : List Nat) (env : Env) (l : List PV) (x : PV) (S : Strm) : Option ((PV × List PV) × Strm) :=
  (bindT (.nm tg) x (wipeE (env.set i (some (.own l))) vs)).bind fun e1 => (ev e e1 S).bind fun r => match r.1 with
    | .int j => if inR j then (ixN l.length j).bind fun m => (l[m]?).map fun y => ((y, l.eraseIdx m), r.2) else none
    | _ => none
def popL (step : List PV → PV → Strm → Option ((PV × List PV) × Strm)) : List PV → List PV → Strm → Option ((List PV × List PV) × Strm)
  | [], l, S => some (([], l), S)
  | x :: xs, l, S => (step l x S).bind fun r => (popL step xs r.1.2 r.2).map fun q => ((r.1.1 :: q.1.1, q.1.2), q.2)
def wrapV : List Bi → PV → Option PV
  | [], x => some x
  | b :: w, x => (wrapV w x).bind fun y => biV b [y]
section
variable (T : Tbl)
abbrev FU : Nat := 60
def evS : Nat → CS → Env → Strm → Option (Fl × Strm)
  | 0, _, _, _ => none
  | n + 1, c, env, S =>
    match c with
    | .asg t e => (evE T FU e env S).bind fun r => (bindT t r.1 env).map fun env' => (.nx env', r.2)
    | .asgO i e => if isFresh e then (evE T FU e env S).bind fun r => match r.1 with | .lst l => if i < env.length && (S.isSome || r.2.isNone) then some (.nx (env.set i (some (.own l))), r.2) else none | _ => none else none
    | .frz i => (ownAt env i).map fun l => (.nx (env.set i (some (.lst l))), S)
    | .app i e => (evE T FU e env S).bind fun r => (ownAt env i).bind fun l => if r.1.isOwn || !decide (l.length < LIM) then none else some (.nx (env.set i (some (.own (l ++ [r.1])))), r.2)
    | .ext i e => (evE T FU e env S).bind fun r => (ownAt env i).bind fun l => match r.1 with | .lst xs => if l.length + xs.length ≤ LIM then some (.nx (env.set i (some (.own (l ++ xs)))), r.2) else none | _ => none
    | .setI i k e => (evE T FU e env S).bind fun r => (evE T FU k env r.2).bind fun q => (ownAt env i).bind fun l => match q.1 with
      | .int j => if r.1.isOwn then none else (ixN l.length j).map fun m => (.nx (env.set i (some (.own (l.set m r.1)))), q.2)
      | _ => none
    | .sset i j e => (evE T FU e env S).bind fun r => match env[i]?, r.1, r.2 with
      | some (some .stm), .int z, some (scr, c, k) => if j = 1 then some (.nx env, some (scr, z, k)) else if j = 2 then some (.nx env, some (scr, c, z)) else none
      | _, _, _ => none
    | .augI i k e => (evE T FU k env S).bind fun q => (ownAt env i).bind fun l => match q.1 with
      | .int j => (atI l j).bind fun old => (evE T FU e env q.2).bind fun r => match old, r.1 with
        | .int x, .int y => (ixN l.length j).map fun m => (.nx (env.set i (some (.own (l.set m (.int (x + y)))))), r.2)
        | _, _ => none
      | _ => none
    | .aug i o e => match env[i]? with
      | some (some (.int x)) => (evE T FU e env S).bind fun r => match o, r.1 with
        | .add, .int y => some (.nx (env.set i (some (.int (x + y)))), r.2)
        | .sub, .int y => some (.nx (env.set i (some (.int (x - y)))), r.2)
        | _, _ => none
      | _ => none
    | .ife d a b => (evE T FU d env S).bind fun r => r.1.tru.bind fun x => if x then seqL (fun c env S => evS n c env S) a env r.2 else seqL (fun c env S => evS n c env S) b env r.2
    | .for_ t it b => (evI T FU it env S).bind fun r => forL (fun x env S => (bindT t x env).bind fun e1 => seqL (fun c env S => evS n c env S) b e1 S) r.1 env r.2
    | .ret e => (evE T FU e env S).bind fun r => if r.1.isOwn then none else some (.rt r.1, r.2)
    | .retO i => (ownAt env i).map fun l => (.rt (.lst l), S)
    | .par i j x y => (evE T FU x env S).bind fun r => (evE T FU y env r.2).bind fun q => if r.1.isOwn || q.1.isOwn then none else some (.nx ((env.set i (some r.1)).set j (some q.1)), q.2)
    | .exp e => (evE T FU e env S).map fun r => (.nx env, r.2)
    | .drop f l e => (T.fn f).bind fun φ => (evL (fun e S => evE T FU e env S) l S).bind fun r => if r.1.length = φ.1 && r.1.all PV.flat then (φ.2 r.1 r.2).bind fun q =>
        match q.1 with
        | .ret (.lst xs) => if decide (xs.length < LIM) && (r.2.isSome || q.2.isNone) && xs.any (fun x => match x with | .tup _ => true | _ => false) then (evE T FU e env q.2).bind fun u => if r.2.isSome || u.2.isNone then some (.nx env, u.2) else none else none
        | _ => none
        else none
    | .popx i e => (evE T FU e env S).bind fun r => (ownAt env i).bind fun l => match r.1 with
      | .int j => if inR j then (ixN l.length j).map fun m => (.nx (env.set i (some (.own (l.eraseIdx m)))), r.2) else none
      | _ => none
    | .stop => none
    | .rse _ _ => none
    | .pass => some (.nx env, S)
    | .pop t w i e tg it own => (evI T FU it env S).bind fun its => (ownAt env i).bind fun l => if decide (its.1.length ≤ LIM) then
        (popL (popS (fun e env S => evE T FU e env S) e tg i (own.map (·.2)) env) its.1 l its.2).bind fun q => (wrapV w (.lst q.1.1)).bind fun x => if x.isOwn then none else
          match t with
          | some j => some (.nx ((env.set i (some (.own q.1.2))).set j (some x)), q.2)
          | none => some (.rt x, q.2)
        else none
/-- a def's body from its arguments: n names in all -/
def evF (n : Nat) (b : List CS) : Fn := fun xs S =>
  (seqL (fun c env S => evS T FU c env S) b (xs.map some ++ List.replicate (n - xs.length) none) S).map fun r => match r.1 with
    | .nx _ => (.ret .non, r.2)
    | .rt x => (.ret x, r.2)
end
end Ws

/-! Ws3: the operations on values keep their word. -/
namespace Ws
open PySem PySem.Spec PyProof.Rows L2

/-- what a pure operation hands on -/
abbrev Fin (K : PySem.W.Frag) (R : Addr → Prop) (a : Addr) (H : Hp) (S : Strm) (z : PV) (Q : VK) : Prop :=
  ∀ u H', Keep a H H' → SRel K R a H' S → RepE K R a H' u z → Q u H'
section
variable {K : PySem.W.Frag} {R : Addr → Prop} {a : Addr} {H : Hp} {S : Strm} {z : PV} {Q : VK}
theorem fin_here (s : SRel K R a H S) {u : V} (r : RepE K R a H u z) (h : Fin K R a H S z Q) : Q u H := h u H Keep.refl s r
theorem fin_int {k : Int} (s : SRel K R a H S) (h : Fin K R a H S (.int k) Q) : Q (.int k) H := h _ _ Keep.refl s (Rep.int k).toE
theorem fin_bl {k : Bool} (s : SRel K R a H S) (h : Fin K R a H S (.bl k) Q) : Q (.bl k) H := h _ _ Keep.refl s (Rep.bl k).toE
theorem fin_ty {k : String} (s : SRel K R a H S) (h : Fin K R a H S (.ty k) Q) : Q (.ty k) H := h _ _ Keep.refl s (Rep.ty k).toE
theorem fin_lst (f : Fresh R a H) (s : SRel K R a H S) {vs : List V} {xs : List PV} (r : Reps K R a H vs xs) (h : Fin K R a H S (.lst xs) Q) : ∀ p, H p = none → Q (.ref p) (upd H p (.lst vs)) := fun p hp =>
  h _ _ (Keep.upd hp) (s.upd hp) (show Rep _ _ _ _ _ _ from .lst upd_same (f.ne hp) (f.fc p hp) (r.keep (Keep.upd hp)))
theorem fin_tup (f : Fresh R a H) (s : SRel K R a H S) {vs : List V} {xs : List PV} (r : Reps K R a H vs xs) (h : Fin K R a H S (.tup xs) Q) : ∀ p, H p = none → Q (.ref p) (upd H p (.tup vs)) := fun p hp =>
  h _ _ (Keep.upd hp) (s.upd hp) (show Rep _ _ _ _ _ _ from .tup upd_same (f.ne hp) (r.keep (Keep.upd hp)))
end
theorem LIM_le {n : Nat} (h : n ≤ LIM) : n ≤ sizeLine := by rw [sizeLine_eq]; unfold LIM at h; omega

/-! ### shapes of values -/
section
variable {K : PySem.W.Frag} {R : Addr → Prop} {a : Addr} {H : Hp} {v : V}
theorem RepE.int {i : Int} (r : RepE K R a H v (.int i)) : v = .int i := by cases (show Rep _ _ _ _ _ _ from r); rfl
theorem RepE.bl {i : Bool} (r : RepE K R a H v (.bl i)) : v = .bl i := by cases (show Rep _ _ _ _ _ _ from r); rfl
theorem RepE.non (r : RepE K R a H v .non) : v = .non := by cases (show Rep _ _ _ _ _ _ from r); rfl
theorem RepE.ty {n : String} (r : RepE K R a H v (.ty n)) : v = .ty n := by cases (show Rep _ _ _ _ _ _ from r); rfl
theorem RepE.str {n : Str} (r : RepE K R a H v (.str n)) : v = .str n := by cases (show Rep _ _ _ _ _ _ from r); rfl
theorem RepE.tup {l : List PV} (r : RepE K R a H v (.tup l)) : ∃ p vs, v = .ref p ∧ H p = some (.tup vs) ∧ p ≠ a ∧ Reps K R a H vs l := by
  cases (show Rep _ _ _ _ _ _ from r) with
  | tup h n q => exact ⟨_, _, rfl, h, n, q⟩
theorem RepE.lst {x : PV} {l : List PV} (r : RepE K R a H v x) (e : x.lst? = some l) : ∃ p vs, v = .ref p ∧ H p = some (.lst vs) ∧ Reps K R a H vs l := by
  cases x with
  | lst m =>
    simp only [PV.lst?, Option.some.injEq] at e
    subst e
    cases (show Rep _ _ _ _ _ _ from r) with
    | lst h n q t => exact ⟨_, _, rfl, h, t⟩
  | own m =>
    simp only [PV.lst?, Option.some.injEq] at e
    subst e
    obtain ⟨l, vs, e1, h, _, q⟩ := r
    exact ⟨l, vs, e1, h, q⟩
  | _ => simp [PV.lst?] at e
theorem RepE.seq {x : PV} {l : List PV} (r : RepE K R a H v x) (e : x.seq? = some l) : ∃ p vs, v = .ref p ∧ (H p = some (.lst vs) ∨ H p = some (.tup vs)) ∧ Reps K R a H vs l := by
  cases x with
  | tup m =>
    simp only [PV.seq?, Option.some.injEq] at e
    subst e
    obtain ⟨p, vs, e1, h, _, q⟩ := r.tup
    exact ⟨p, vs, e1, .inr h, q⟩
  | lst m =>
    obtain ⟨p, vs, e1, h, q⟩ := r.lst (l := l) e
    exact ⟨p, vs, e1, .inl h, q⟩
  | own m =>
    obtain ⟨p, vs, e1, h, q⟩ := r.lst (l := l) e
    exact ⟨p, vs, e1, .inl h, q⟩
  | _ => simp [PV.seq?] at e
end
theorem ints_of : ∀ {l : List PV} {ns : List Int}, ints? l = some ns → l = ns.map PV.int
  | [], ns, h => by simp [ints?] at h; subst h; rfl
  | x :: l, ns, h => by
    cases x with
    | int i =>
      simp only [ints?, Option.map_eq_some_iff] at h
      obtain ⟨ms, h1, h2⟩ := h
      subst h2
      rw [ints_of h1]; rfl
    | _ => simp [ints?] at h
theorem bls_of : ∀ {l : List PV} {ns : List Bool}, bls? l = some ns → l = ns.map PV.bl
  | [], ns, h => by simp [bls?] at h; subst h; rfl
  | x :: l, ns, h => by
    cases x with
    | bl i =>
      simp only [bls?, Option.map_eq_some_iff] at h
      obtain ⟨ms, h1, h2⟩ := h
      subst h2
      rw [bls_of h1]; rfl
    | _ => simp [bls?] at h

/-! ### truth -/
section
variable {K : PySem.W.Frag} {R : Addr → Prop} {a : Addr} {H : Hp} {v : V}
theorem Reps.empty {vs : List V} {l : List PV} (q : Reps K R a H vs l) : vs.isEmpty = l.isEmpty := by cases q <;> rfl
theorem tru_v {x : PV} {b : Bool} (r : RepE K R a H v x) (e : x.tru = some b) : TruV K v H b := by
  cases x with
  | non => rw [r.non]; simp only [PV.tru, Option.some.injEq] at e; exact e.symm
  | bl k => rw [r.bl]; simp only [PV.tru, Option.some.injEq] at e; exact e.symm
  | int k => rw [r.int]; simp only [PV.tru, Option.some.injEq] at e; exact e.symm
  | tup l =>
    obtain ⟨p, vs, rfl, h, _, q⟩ := r.tup
    simp only [PV.tru, Option.some.injEq] at e
    exact .inr (.inl ⟨vs, SqT.of h, by rw [q.empty]; exact e.symm⟩)
  | lst l =>
    obtain ⟨p, vs, rfl, h, q⟩ := r.lst (l := l) rfl
    simp only [PV.tru, Option.some.injEq] at e
    exact .inl ⟨vs, SqL.of h, by rw [q.empty]; exact e.symm⟩
  | own l =>
    obtain ⟨p, vs, rfl, h, q⟩ := r.lst (l := l) rfl
    simp only [PV.tru, Option.some.injEq] at e
    exact .inl ⟨vs, SqL.of h, by rw [q.empty]; exact e.symm⟩
  | _ => simp [PV.tru] at e
end

/-! ### + - * % // -/
section
variable {X : Cx}
theorem bin_ok (o : BOp) : ∃ (op : Operator) (r : R2), OpR X (binaryOp op) r ∧ (match o with | .add => op = .Add | .sub => op = .Sub | .mul => op = .Mult | .mod => op = .Mod | .fdiv => op = .FloorDiv | .pow => op = .Pow) ∧
    ∀ {R : Addr → Prop} {a : Addr} {H : Hp} {S : Strm} {x y z : PV} {v w : V} {Q : VK}, Fresh R a H → SRel X.K R a H S → RepE X.K R a H v x → RepE X.K R a H w y → binV o x y = some z → Fin X.K R a H S z Q → r v w H Q := by
  cases o with
  | add =>
    refine ⟨.Add, _, op_add.or (op_catA.or op_cat), rfl, ?_⟩
    intro R a H S x y z v w Q f s rx ry e h
    cases x with
    | int i =>
      cases y with
      | int j =>
        simp only [binV, Option.some.injEq] at e
        subst e
        exact .inl ⟨i, j, rx.int, ry.int, fin_int s h⟩
      | _ => simp [binV, PV.lst?, catL] at e
    | tup l =>
      cases y with
      | tup m =>
        simp only [binV] at e
        split at e
        · rename_i hl
          simp only [Option.some.injEq] at e
          subst e
          obtain ⟨p, vs, rfl, h1, n1, q1⟩ := rx.tup
          obtain ⟨p2, ws, rfl, h2, n2, q2⟩ := ry.tup
          refine .inr (.inl ⟨p, p2, vs, ws, rfl, rfl, SqT.of h1, SqT.of h2, LIM_le (by rw [q1.length, q2.length]; exact hl), fun e => ?_, fun _ e => ?_, fun _ _ => fin_tup f s (q1.append q2) h⟩)
          · subst e; cases q1; exact fin_here s ry h
          · subst e; cases q2; rw [List.append_nil] at h; exact fin_here s rx h
        · cases e
      | _ => simp [binV, PV.lst?, catL] at e
    | lst l =>
      cases hy : y.lst? with
      | none => cases y <;> simp [binV, hy, PV.lst?, catL] at e hy
      | some m =>
        have e' : (if l.length + m.length ≤ LIM then some (PV.lst (l ++ m)) else none) = some z := by
          cases y <;> simp [binV, PV.lst?, catL] at e hy ⊢ <;> subst hy <;> exact e
        split at e'
        · rename_i hl
          simp only [Option.some.injEq] at e'
          subst e'
          obtain ⟨p, vs, rfl, h1, q1⟩ := rx.lst (l := l) rfl
          obtain ⟨p2, ws, rfl, h2, q2⟩ := ry.lst (l := m) hy
          exact .inr (.inr ⟨p, p2, vs, ws, rfl, rfl, h1, h2, LIM_le (by rw [q1.length, q2.length]; exact hl), fin_lst f s (q1.append q2) h⟩)
        · cases e'
    | own l =>
      cases hy : y.lst? with
      | none => cases y <;> simp [binV, hy, PV.lst?, catL] at e hy
      | some m =>
        have e' : (if l.length + m.length ≤ LIM then some (PV.lst (l ++ m)) else none) = some z := by
          cases y <;> simp [binV, PV.lst?, catL] at e hy ⊢ <;> subst hy <;> exact e
        split at e'
        · rename_i hl
          simp only [Option.some.injEq] at e'
          subst e'
          obtain ⟨p, vs, rfl, h1, q1⟩ := rx.lst (l := l) rfl
          obtain ⟨p2, ws, rfl, h2, q2⟩ := ry.lst (l := m) hy
          exact .inr (.inr ⟨p, p2, vs, ws, rfl, rfl, h1, h2, LIM_le (by rw [q1.length, q2.length]; exact hl), fin_lst f s (q1.append q2) h⟩)
        · cases e'
    | _ => cases y <;> simp [binV, PV.lst?, catL, repL] at e
  | sub =>
    refine ⟨.Sub, _, op_sub, rfl, ?_⟩
    intro R a H S x y z v w Q f s rx ry e h
    cases x with
    | int i =>
      cases y with
      | int j =>
        simp only [binV, Option.some.injEq] at e
        subst e
        exact ⟨i, j, rx.int, ry.int, fin_int s h⟩
      | _ => simp [binV, repL, PV.lst?] at e
    | _ => simp [binV, repL, PV.lst?] at e
  | mul =>
    refine ⟨.Mult, _, (op_mul.or op_rep).or op_repT, rfl, ?_⟩
    intro R a H S x y z v w Q f s rx ry e h
    have lst : ∀ {l : List PV} {k : Int}, x.lst? = some l → y = .int k → (if decide (-(2 ^ 62) ≤ k) && decide (k < 2 ^ 62) && decide (l.length * k.toNat ≤ LIM) then some (PV.lst (List.replicate k.toNat l).flatten) else none) = some z → rRep v w H Q := by
      intro l k hx hy e'
      subst hy
      split at e'
      · rename_i hl
        simp only [Bool.and_eq_true, decide_eq_true_eq] at hl
        simp only [Option.some.injEq] at e'
        subst e'
        obtain ⟨p, vs, rfl, h1, q1⟩ := rx.lst hx
        obtain ⟨⟨l1, l2⟩, l3⟩ := hl
        exact ⟨p, k, vs, rfl, ry.int, h1, by omega, by omega, LIM_le (by rw [q1.length]; exact l3), fin_lst f s (q1.rep _) h⟩
      · cases e'
    cases x with
    | int i =>
      cases y with
      | int j =>
        simp only [binV] at e
        split at e
        · rename_i hl
          simp only [Option.some.injEq] at e
          subst e
          refine .inl (.inl ⟨i, j, rx.int, ry.int, ?_, fin_int s h⟩)
          simp only [sml, Bool.or_eq_true, Bool.and_eq_true, decide_eq_true_eq] at hl
          exact hl
        · cases e
      | _ => simp [binV, repL, PV.lst?] at e
    | lst l =>
      cases y with
      | int k => exact .inl (.inr (lst (l := l) (k := k) rfl rfl (by simpa [binV, PV.lst?, repL] using e)))
      | _ => simp [binV, repL, PV.lst?] at e
    | own l =>
      cases y with
      | int k => exact .inl (.inr (lst (l := l) (k := k) rfl rfl (by simpa [binV, PV.lst?, repL] using e)))
      | _ => simp [binV, repL, PV.lst?] at e
    | tup l =>
      cases y with
      | int k =>
        simp only [binV, repT] at e
        split at e
        · rename_i hl
          simp only [Bool.and_eq_true, decide_eq_true_eq, Bool.not_eq_true'] at hl
          simp only [Option.some.injEq] at e
          subst e
          obtain ⟨p, vs, rfl, h1, n1, q1⟩ := rx.tup
          obtain ⟨⟨⟨l0, l1⟩, l2⟩, l3⟩ := hl
          refine .inr ⟨p, k, vs, rfl, ry.int, SqT.of h1, fun z => ?_, l1, l2, by rw [q1.length]; exact l3, fin_tup f s (q1.rep _) h⟩
          subst z
          cases q1
          cases l0
        · cases e
      | _ => simp [binV, repL, PV.lst?] at e
    | _ => cases y <;> simp [binV, PV.lst?, catL, repL] at e
  | mod =>
    refine ⟨.Mod, _, op_mod, rfl, ?_⟩
    intro R a H S x y z v w Q f s rx ry e h
    cases x with
    | int i =>
      cases y with
      | int j =>
        simp only [binV] at e
        split at e
        · rename_i hl
          simp only [Option.some.injEq] at e
          subst e
          exact ⟨i, j, rx.int, ry.int, of_decide_eq_true hl, fin_int s h⟩
        · cases e
      | _ => simp [binV, repL, PV.lst?] at e
    | _ => simp [binV, repL, PV.lst?] at e
  | fdiv =>
    refine ⟨.FloorDiv, _, op_fdiv, rfl, ?_⟩
    intro R a H S x y z v w Q f s rx ry e h
    cases x with
    | int i =>
      cases y with
      | int j =>
        simp only [binV] at e
        split at e
        · rename_i hl
          simp only [Bool.and_eq_true, decide_eq_true_eq] at hl
          simp only [Option.some.injEq] at e
          subst e
          exact ⟨i, j, rx.int, ry.int, hl, fin_int s h⟩
        · cases e
      | _ => simp [binV, repL, PV.lst?] at e
    | _ => simp [binV, repL, PV.lst?] at e
  | pow =>
    refine ⟨.Pow, _, op_pow, rfl, ?_⟩
    intro R a H S x y z v w Q f s rx ry e h
    cases x with
    | int i =>
      cases y with
      | int j =>
        simp only [binV] at e
        split at e
        · rename_i hl
          simp only [Bool.and_eq_true, decide_eq_true_eq] at hl
          simp only [Option.some.injEq] at e
          subst e
          exact ⟨i, j, rx.int, ry.int, ⟨hl.1.1, by omega, hl.2⟩, fin_int s h⟩
        · cases e
      | _ => simp [binV, repL, PV.lst?] at e
    | _ => simp [binV, repL, PV.lst?] at e
end

/-! ### comparisons -/
/-- the kinds of built-in values, by name -/
theorem metaOk {n : String} (h : n = "NoneType" ∨ n = "bool" ∨ n = "int" ∨ n = "str" ∨ n = "tuple" ∨ n = "list") : ∀ s' : Shared, s'.TypeIs (.type n) "type" := by
  rcases h with rfl | rfl | rfl | rfl | rfl | rfl
  · exact PySem.TypeEq.meta_NoneType
  · exact PySem.TypeEq.meta_bool
  · exact PySem.TypeEq.meta_int
  · exact PySem.TypeEq.meta_str
  · exact PySem.TypeEq.meta_tuple
  · exact PySem.TypeEq.meta_list
theorem knownTy_or {n : String} (h : knownTy n = true) : n = "NoneType" ∨ n = "bool" ∨ n = "int" ∨ n = "str" ∨ n = "tuple" ∨ n = "list" := by
  simpa [knownTy, or_assoc] using h
/-- two built-in types -/
def rEqTy : R2 := fun x y H Q => ∃ n m, x = .ty n ∧ y = .ty m ∧ knownTy n = true ∧ knownTy m = true ∧ Q (.bl (n == m)) H
section
variable {X : Cx}
theorem op_eqTy : OpR X (compareOp .Eq) rEqTy := by
  intro pins s σ H x y v u Q I rx ry h
  obtain ⟨n, m, rfl, rfl, hn, hm, q⟩ := h
  cases rx
  cases ry
  by_cases e : n = m
  · subst e
    exact PySem.TypeEq.eq_type_same (metaOk (knownTy_or hn)) ⟨.bl _, H, I, rfl, by simpa using q⟩
  · have e2 : (n == m) = false := by simpa using e
    rw [e2] at q
    exact PySem.TypeEq.eq_type_other (metaOk (knownTy_or hn)) (metaOk (knownTy_or hm)) (by simpa using e) ⟨.bl _, H, I, rfl, q⟩
def rNeTy : R2 := fun x y H Q => ∃ n, x = .ty n ∧ y = .ty n ∧ knownTy n = true ∧ Q (.bl false) H
theorem op_neTy (hu : X.A.units + 64 < cLine) : OpR X (compareOp .NotEq) rNeTy := by
  intro pins s σ H x y v u Q I rx ry h
  obtain ⟨n, rfl, rfl, hn, q⟩ := h
  cases rx
  cases ry
  exact ne_type_same (metaOk (knownTy_or hn)) (by omega) ⟨.bl _, H, I, rfl, q⟩
end
mutual
theorem Rep.dp {K : PySem.W.Frag} {R : Addr → Prop} {a : Addr} {H : Hp} : ∀ {v : V} {x : PV} {d : PyData}, Rep K R a H v x → x.pd = some d → Dp K H v d
  | _, _, _, .non, e => by simp only [PV.pd, Option.some.injEq] at e; subst e; exact .non
  | _, _, _, .bl b, e => by simp only [PV.pd, Option.some.injEq] at e; subst e; exact .bl b
  | _, _, _, .int b, e => by simp only [PV.pd, Option.some.injEq] at e; subst e; exact .int b
  | _, _, _, .str b, e => by simp only [PV.pd, Option.some.injEq] at e; subst e; exact .str b
  | _, _, _, .ty b, e => by simp [PV.pd] at e
  | _, _, _, .stm, e => by simp [PV.pd] at e
  | _, _, _, .tup h n r, e => by
    simp only [PV.pd, Option.map_eq_some_iff] at e
    obtain ⟨ds, h1, h2⟩ := e
    subst h2
    exact .tup (SqT.of h) (Reps.dp r h1)
  | _, _, _, .lst h n q r, e => by
    simp only [PV.pd, Option.map_eq_some_iff] at e
    obtain ⟨ds, h1, h2⟩ := e
    subst h2
    exact .lst (SqL.of h) (Reps.dp r h1)
theorem Reps.dp {K : PySem.W.Frag} {R : Addr → Prop} {a : Addr} {H : Hp} : ∀ {v : List V} {x : List PV} {d : List PyData}, Reps K R a H v x → PV.pds x = some d → DpAll K H v d
  | _, _, _, .nil, e => by simp only [PV.pds, Option.some.injEq] at e; subst e; exact .nil
  | _, _, _, .cons r rs, e => by
    simp only [PV.pds, Option.bind_eq_some_iff, Option.map_eq_some_iff] at e
    obtain ⟨d, h1, ds, h2, h3⟩ := e
    subst h3
    exact .cons (Rep.dp r h1) (Reps.dp rs h2)
end
mutual
theorem Rep.ofD {K : PySem.W.Frag} {R : Addr → Prop} {a : Addr} {H : Hp} : ∀ {v : V} {x : PV} {d : PyData}, Rep K R a H v x → x.pd = some d → Ws.ofD d = x
  | _, _, _, .non, e => by simp only [PV.pd, Option.some.injEq] at e; subst e; simp [Ws.ofD]
  | _, _, _, .bl b, e => by simp only [PV.pd, Option.some.injEq] at e; subst e; simp [Ws.ofD]
  | _, _, _, .int b, e => by simp only [PV.pd, Option.some.injEq] at e; subst e; simp [Ws.ofD]
  | _, _, _, .str b, e => by simp only [PV.pd, Option.some.injEq] at e; subst e; simp [Ws.ofD]
  | _, _, _, .ty b, e => by simp [PV.pd] at e
  | _, _, _, .stm, e => by simp [PV.pd] at e
  | _, _, _, .tup h n r, e => by
    simp only [PV.pd, Option.map_eq_some_iff] at e
    obtain ⟨ds, h1, h2⟩ := e
    subst h2
    rw [Ws.ofD, Reps.ofDs r h1]
  | _, _, _, .lst h n q r, e => by
    simp only [PV.pd, Option.map_eq_some_iff] at e
    obtain ⟨ds, h1, h2⟩ := e
    subst h2
    rw [Ws.ofD, Reps.ofDs r h1]
theorem Reps.ofDs {K : PySem.W.Frag} {R : Addr → Prop} {a : Addr} {H : Hp} : ∀ {v : List V} {x : List PV} {d : List PyData}, Reps K R a H v x → PV.pds x = some d → Ws.ofDs d = x
  | _, _, _, .nil, e => by simp only [PV.pds, Option.some.injEq] at e; subst e; simp [Ws.ofDs]
  | _, _, _, .cons r rs, e => by
    simp only [PV.pds, Option.bind_eq_some_iff, Option.map_eq_some_iff] at e
    obtain ⟨d, h1, ds, h2, h3⟩ := e
    subst h3
    rw [Ws.ofDs, Rep.ofD r h1, Reps.ofDs rs h2]
end
theorem pds_get : ∀ {l : List PV} {ds : List PyData} {i : Nat} {d : PyData}, PV.pds l = some ds → ds[i]? = some d → ∃ x, l[i]? = some x ∧ x.pd = some d
  | [], _, _, _, e, h => by simp only [PV.pds, Option.some.injEq] at e; subst e; simp at h
  | x :: l, _, i, d, e, h => by
    simp only [PV.pds, Option.bind_eq_some_iff, Option.map_eq_some_iff] at e
    obtain ⟨d0, h1, ds, h2, h3⟩ := e
    subst h3
    cases i with
    | zero => simp at h; subst h; exact ⟨x, rfl, h1⟩
    | succ i => exact pds_get (l := l) h2 (by simpa using h)
theorem RepE.dp {K : PySem.W.Frag} {R : Addr → Prop} {a : Addr} {H : Hp} {v : V} {x : PV} {d : PyData} (r : RepE K R a H v x) (e : x.pd = some d) : Dp K H v d := by
  cases x with
  | own l =>
    simp only [PV.pd, Option.map_eq_some_iff] at e
    obtain ⟨ds, h1, h2⟩ := e
    subst h2
    obtain ⟨p, vs, rfl, h, n, q⟩ := r
    exact .lst (SqL.of h) (q.dp h1)
  | _ => exact Rep.dp r e
theorem Rep.flat1 {K : PySem.W.Frag} {R : Addr → Prop} {a : Addr} {H : Hp} {v : V} {x : PV} (r : Rep K R a H v x) (h : x.flat1 = true) : flatV v = true := by
  cases r <;> first | rfl | (simp [PV.flat1] at h)
theorem Reps.flat1 {K : PySem.W.Frag} {R : Addr → Prop} {a : Addr} {H : Hp} : ∀ {vs : List V} {xs : List PV}, Reps K R a H vs xs → xs.all PV.flat1 = true → vs.all flatV = true
  | _, _, .nil, _ => rfl
  | _, _, .cons r t, h => by
    rw [List.all_cons, Bool.and_eq_true] at h
    rw [List.all_cons, r.flat1 h.1, Reps.flat1 t h.2]; rfl
theorem eqF_of {K : PySem.W.Frag} {R : Addr → Prop} {a : Addr} {H : Hp} {v w : V} {x y : PV} (r : Rep K R a H v x) (q : Rep K R a H w y) (h : x.flat1 = true) (h' : y.flat1 = true) : L2.eqV v w = eqF x y := by
  cases r <;> first | (cases q <;> first | rfl | (simp [PV.flat1] at h')) | (simp [PV.flat1] at h)
theorem inV_of {K : PySem.W.Frag} {R : Addr → Prop} {a : Addr} {H : Hp} {v : V} {x : PV} (r : Rep K R a H v x) (h : x.flat1 = true) : ∀ {vs : List V} {xs : List PV}, Reps K R a H vs xs → xs.all PV.flat1 = true → inV v vs = xs.any fun y => eqF y x
  | _, _, .nil, _ => rfl
  | _, _, .cons q t, h' => by
    rw [List.all_cons, Bool.and_eq_true] at h'
    have ih := inV_of r h t h'.2
    unfold inV at ih ⊢
    rw [List.any_cons, List.any_cons, ih, eqF_of q r h'.1 h]
def cOp : COp → CmpOp
  | .eq => .Eq | .ne => .NotEq | .lt => .Lt | .le => .LtE | .gt => .Gt | .ge => .GtE | .isN => .Is | .isNN => .IsNot | .mem => .In | .nmem => .NotIn | .isB => .Is | .isNB => .IsNot
section
variable {X : Cx}
theorem memD_of {x : PV} {l : List PV} {b : Bool} (h : memD x l = some b) : ∃ d ds, x.pd = some d ∧ PV.pds l = some ds ∧ SeqAt.shaped d = true ∧ PyData.canLayAll0 ds = true ∧ (ds.any fun z => PyData.eqv z d) = b := by
  unfold memD at h
  split at h
  · rename_i d ds h1 h2
    split at h
    · rename_i hs
      rw [Bool.and_eq_true] at hs
      exact ⟨d, ds, h1, h2, hs.1, hs.2, Option.some.inj h⟩
    · cases h
  · cases h
theorem cmp_ok (hr : Room 0 X.A) (o : COp) : ∃ r : R2, OpR X (compareOp (cOp o)) r ∧
    ∀ {R : Addr → Prop} {a : Addr} {H : Hp} {S : Strm} {x y : PV} {b : Bool} {v w : V} {Q : VK}, SRel X.K R a H S → RepE X.K R a H v x → RepE X.K R a H w y → cmpV o x y = some b → Q (.bl b) H → r v w H Q := by
  have hu : X.A.units + 64 < cLine := by have := hr.un; omega
  have hu5 : X.A.units + 65 < cLine := by have := hr.un; omega
  cases o with
  | eq =>
    refine ⟨_, op_eq.or ((op_eqD hu).or op_eqTy), ?_⟩
    intro R a H S x y b v w Q s rx ry e h
    have gen : eqD x y = some b → rEq v w H Q ∨ rEqD X.K v w H Q ∨ rEqTy v w H Q := fun e => by
      unfold eqD at e
      split at e
      · rename_i d d' h1 h2
        split at e
        · rename_i hs
          rw [Bool.and_eq_true] at hs
          simp only [Option.some.injEq] at e
          subst e
          exact .inr (.inl ⟨d, d', rx.dp h1, ry.dp h2, hs.1, hs.2, h⟩)
        · cases e
      · cases e
    simp only [cmpV] at e
    cases x with
    | int i =>
      cases y with
      | int j =>
        simp only [eqP, Option.some.injEq] at e
        subst e
        refine .inl ⟨by rw [rx.int, ry.int]; rfl, ?_⟩
        rw [rx.int, ry.int]
        have : decide (V.int i = V.int j) = decide (i = j) := by simp
        rw [this]; exact h
      | _ => exact gen (by simpa [eqP] using e)
    | ty n =>
      cases y with
      | ty m =>
        simp only [eqP] at e
        split at e
        · rename_i hk
          rw [Bool.and_eq_true] at hk
          simp only [Option.some.injEq] at e
          subst e
          exact .inr (.inr ⟨n, m, rx.ty, ry.ty, hk.1, hk.2, h⟩)
        · cases e
      | _ => exact gen (by simpa [eqP] using e)
    | _ => exact gen (by cases y <;> simpa [eqP] using e)
  | ne =>
    refine ⟨_, (op_ne.or (op_neD hu)).or (op_neTy hu), ?_⟩
    intro R a H S x y b v w Q s rx ry e h
    have gen : (eqD x y).map (!·) = some b → (rNe v w H Q ∨ rNeD X.K v w H Q) ∨ rNeTy v w H Q := fun e => by
      unfold eqD at e
      split at e
      · rename_i d d' h1 h2
        split at e
        · rename_i hs
          rw [Bool.and_eq_true] at hs
          simp only [Option.map_some, Option.some.injEq] at e
          subst e
          exact .inl (.inr ⟨d, d', rx.dp h1, ry.dp h2, hs.1, hs.2, h⟩)
        · cases e
      · cases e
    simp only [cmpV] at e
    cases x with
    | int i =>
      cases y with
      | int j =>
        simp only [neP, eqP, Option.map_some, Option.some.injEq] at e
        subst e
        refine .inl <| .inl ⟨by rw [rx.int, ry.int]; rfl, ?_⟩
        rw [rx.int, ry.int]
        have : decide (V.int i = V.int j) = decide (i = j) := by simp
        rw [this]; exact h
      | _ => exact gen (by simpa [neP, eqP] using e)
    | ty n =>
      cases y with
      | ty m =>
        simp only [neP] at e
        split at e
        case isFalse => cases e
        rename_i hk
        rw [Bool.and_eq_true, beq_iff_eq] at hk
        obtain ⟨hk, rfl⟩ := hk
        simp only [Option.some.injEq] at e
        subst e
        have e1 : v = .ty n := by cases rx; rfl
        have e2 : w = .ty n := by cases ry; rfl
        exact .inr ⟨n, e1, e2, hk, h⟩
      | _ => exact gen (by simpa [neP, eqP] using e)
    | _ => exact gen (by cases y <;> simpa [neP, eqP] using e)
  | lt =>
    refine ⟨_, op_lt.or (op_ltD hu), ?_⟩
    intro R a H S x y b v w Q s rx ry e h
    have gen : ltD x y = some b → rI0 (fun i j => .bl (decide (i < j))) v w H Q ∨ rLtD X.K v w H Q := fun e => by
      unfold ltD at e
      split at e
      · rename_i d d' h1 h2
        split at e
        · rename_i hs
          simp only [Bool.and_eq_true, decide_eq_true_eq] at hs
          simp only [Option.some.injEq] at e
          subst e
          exact .inr ⟨d, d', rx.dp h1, ry.dp h2, hs.1.1, fun z => (by subst z; simp [notNone] at hs), hs.2, h⟩
        · cases e
      · cases e
    simp only [cmpV] at e
    cases x with
    | int i =>
      cases y with
      | int j =>
        simp only [Option.some.injEq] at e
        subst e
        exact .inl ⟨_, _, rx.int, ry.int, h⟩
      | _ => exact gen (by simpa using e)
    | _ => exact gen (by cases y <;> simpa using e)
  | le =>
    refine ⟨_, op_le, ?_⟩
    intro R a H S x y b v w Q s rx ry e h
    cases x <;> first | (simp [cmpV] at e; done) | (cases y <;> first | (simp [cmpV] at e; done) | (simp only [cmpV, Option.some.injEq] at e; subst e; exact ⟨_, _, rx.int, ry.int, h⟩))
  | gt =>
    refine ⟨_, op_gt.or (op_gtD hu), ?_⟩
    intro R a H S x y b v w Q s rx ry e h
    have gen : gtD x y = some b → rI0 (fun i j => .bl (decide (j < i))) v w H Q ∨ rGtD X.K v w H Q := fun e => by
      unfold gtD at e
      split at e
      · rename_i d d' h1 h2
        split at e
        · rename_i hs
          simp only [Bool.and_eq_true, decide_eq_true_eq] at hs
          simp only [Option.some.injEq] at e
          subst e
          exact .inr ⟨d, d', rx.dp h1, ry.dp h2, hs.1.1, fun z => (by subst z; simp [notNone] at hs), hs.2, h⟩
        · cases e
      · cases e
    simp only [cmpV] at e
    cases x with
    | int i =>
      cases y with
      | int j =>
        simp only [Option.some.injEq] at e
        subst e
        exact .inl ⟨_, _, rx.int, ry.int, h⟩
      | _ => exact gen (by simpa using e)
    | _ => exact gen (by cases y <;> simpa using e)
  | ge =>
    refine ⟨_, op_ge, ?_⟩
    intro R a H S x y b v w Q s rx ry e h
    cases x <;> first | (simp [cmpV] at e; done) | (cases y <;> first | (simp [cmpV] at e; done) | (simp only [cmpV, Option.some.injEq] at e; subst e; exact ⟨_, _, rx.int, ry.int, h⟩))
  | isN =>
    refine ⟨_, op_isN, ?_⟩
    intro R a H S x y b v w Q s rx ry e h
    cases y <;> first | (simp [cmpV] at e; done) | skip
    refine ⟨ry.non, ?_⟩
    have : decide (v = V.non) = b := by
      simp only [cmpV, Option.some.injEq] at e
      subst e
      cases x with
      | own l => obtain ⟨p, vs, rfl, _⟩ := rx; rfl
      | _ => cases (show Rep _ _ _ _ _ _ from rx) <;> rfl
    rw [this]; exact h
  | isNN =>
    refine ⟨_, op_notN, ?_⟩
    intro R a H S x y b v w Q s rx ry e h
    cases y <;> first | (simp [cmpV] at e; done) | skip
    refine ⟨ry.non, ?_⟩
    have : (!decide (v = V.non)) = b := by
      simp only [cmpV, Option.some.injEq] at e
      subst e
      cases x with
      | own l => obtain ⟨p, vs, rfl, _⟩ := rx; rfl
      | _ => cases (show Rep _ _ _ _ _ _ from rx) <;> rfl
    rw [this]; exact h
  | isB =>
    refine ⟨_, op_isBl, ?_⟩
    intro R a H S x y b v w Q s rx ry e h
    cases x <;> first | (simp [cmpV] at e; done) | (cases y <;> first | (simp [cmpV] at e; done) | (simp only [cmpV, Option.some.injEq] at e; subst e; exact ⟨_, _, rx.bl, ry.bl, h⟩))
  | isNB =>
    refine ⟨_, op_notBl, ?_⟩
    intro R a H S x y b v w Q s rx ry e h
    cases x <;> first | (simp [cmpV] at e; done) | (cases y <;> first | (simp [cmpV] at e; done) | (simp only [cmpV, Option.some.injEq] at e; subst e; exact ⟨_, _, rx.bl, ry.bl, h⟩))
  | mem =>
    refine ⟨_, op_in_seq.or (op_inDT hu5), ?_⟩
    intro R a H S x y b v w Q s rx ry e h
    simp only [cmpV, Option.bind_eq_some_iff] at e
    obtain ⟨l, h1, h2⟩ := e
    unfold memV at h2
    split at h2
    · rename_i hf
      rw [Bool.and_eq_true] at hf
      simp only [Option.some.injEq] at h2
      obtain ⟨p, vs, rfl, hp, q⟩ := ry.seq h1
      have rx' : Rep X.K R a H v x := rx.rep (by cases x <;> first | rfl | simp [PV.flat1] at hf)
      refine .inl ⟨p, vs, rfl, hp.elim (fun z => .inl (SqL.of z)) (fun z => .inr (SqT.of z)), rx'.flat1 hf.1, q.flat1 hf.2, ?_⟩
      rw [if_neg (by decide), inV_of rx' hf.1 q hf.2, h2]
      exact h
    · obtain ⟨d, ds, e1, e2, e3, e4, e5⟩ := memD_of h2
      subst e5
      obtain ⟨p, vs, rfl, hp, q⟩ := ry.seq h1
      exact .inr ⟨d, ds, rx.dp e1, hp.elim (fun z => .inl (.lst (SqL.of z) (q.dp e2))) (fun z => .inr (.tup (SqT.of z) (q.dp e2))), e3, e4, h⟩
  | nmem =>
    refine ⟨_, op_notIn_seq.or (op_niDT hu5), ?_⟩
    intro R a H S x y b v w Q s rx ry e h
    simp only [cmpV, Option.map_eq_some_iff, Option.bind_eq_some_iff] at e
    obtain ⟨c, ⟨l, h1, h2⟩, h3⟩ := e
    unfold memV at h2
    split at h2
    · rename_i hf
      rw [Bool.and_eq_true] at hf
      simp only [Option.some.injEq] at h2
      obtain ⟨p, vs, rfl, hp, q⟩ := ry.seq h1
      have rx' : Rep X.K R a H v x := rx.rep (by cases x <;> first | rfl | simp [PV.flat1] at hf)
      refine .inl ⟨p, vs, rfl, hp.elim (fun z => .inl (SqL.of z)) (fun z => .inr (SqT.of z)), rx'.flat1 hf.1, q.flat1 hf.2, ?_⟩
      rw [if_pos rfl, inV_of rx' hf.1 q hf.2, h2, h3]
      exact h
    · obtain ⟨d, ds, e1, e2, e3, e4, e5⟩ := memD_of h2
      subst e5
      subst h3
      obtain ⟨p, vs, rfl, hp, q⟩ := ry.seq h1
      exact .inr ⟨d, ds, rx.dp e1, hp.elim (fun z => .inl (.lst (SqL.of z) (q.dp e2))) (fun z => .inr (.tup (SqT.of z) (q.dp e2))), e3, e4, h⟩
end
end Ws

/-! Ws4: the built-ins keep their word; the check that a text in short is the text. -/
namespace Ws
open PySem PySem.Spec PyProof.Rows L2

def biName : Bi → Str
  | .len => "len" | .all => "all" | .any => "any" | .sum => "sum" | .list => "list" | .tuple => "tuple" | .sorted => "sorted" | .min2 => "min" | .max2 => "max" | .min1 => "min" | .max1 => "max" | .mind => "min" | .abs => "abs" | .int => "int" | .type => "type" | .isi => "isinstance"
def biVal : Bi → Value
  | .len => .builtin "len" | .all => .builtin "all" | .any => .builtin "any" | .sum => .builtin "sum" | .list => .type "list" | .tuple => .type "tuple" | .sorted => .builtin "sorted" | .min2 => .builtin "min" | .max2 => .builtin "max" | .min1 => .builtin "min" | .max1 => .builtin "max" | .mind => .builtin "min" | .abs => .builtin "abs" | .int => .type "int" | .type => .type "type" | .isi => .builtin "isinstance"
theorem biBoot (b : Bi) : bootBuiltins (biName b) = some (biVal b) := by cases b <;> decide +kernel
theorem biN (b : Bi) : biName b ≠ "__name__" := by cases b <;> decide
theorem biD (b : Bi) : (biName b == ("__debug__" : Str)) = false := by cases b <;> decide

section
variable {X : Cx}
/-- type(x) -/
def rTy6 : List V → Hp → VK → Prop := fun xs H Q => ∃ (x : V) (T : String), xs = [x] ∧ (x = .non ∧ T = "NoneType" ∨ (∃ b, x = .bl b) ∧ T = "bool" ∨ (∃ b, x = .int b) ∧ T = "int" ∨ (∃ b, x = .str b) ∧ T = "str" ∨
  (∃ p xs, x = .ref p ∧ H p = some (.lst xs)) ∧ T = "list" ∨ (∃ p xs, x = .ref p ∧ H p = some (.tup xs)) ∧ T = "tuple") ∧ Q (.ty T) H
theorem call_type6 : CallR X (.type "type") rTy6 := by
  intro pins s σ H xs us Q I r h
  obtain ⟨x, T, rfl, t, q⟩ := h
  obtain ⟨u, rfl, rx⟩ := vals1 r
  rcases t with ⟨rfl, rfl⟩ | ⟨⟨b, rfl⟩, rfl⟩ | ⟨⟨b, rfl⟩, rfl⟩ | ⟨⟨b, rfl⟩, rfl⟩ | ⟨⟨p, xs, rfl, e⟩, rfl⟩ | ⟨⟨p, xs, rfl, e⟩, rfl⟩
  · cases rx
    exact call_type_of (Tx := "NoneType") rfl (by decide +kernel) ⟨.ty _, H, I, rfl, q⟩
  · cases rx
    exact call_type_of (Tx := "bool") rfl (by decide +kernel) ⟨.ty _, H, I, rfl, q⟩
  · obtain ⟨t, rfl⟩ := rx
    exact call_type_of (Tx := "int") rfl (by decide +kernel) ⟨.ty _, H, I, rfl, q⟩
  · obtain ⟨t, rfl⟩ := rx
    exact call_type_of (Tx := "str") rfl (by decide +kernel) ⟨.ty _, H, I, rfl, q⟩
  · cases rx
    obtain ⟨its, rv, p, _⟩ := I.list (.inl (.inl e))
    exact call_type_of p.isList.typeIs (by decide +kernel) ⟨.ty _, H, I, rfl, q⟩
  · cases rx
    obtain ⟨its, rv, p, _⟩ := I.tuple (.inl (.inl e))
    exact call_type_of p.typeIs (by decide +kernel) ⟨.ty _, H, I, rfl, q⟩
theorem tyOf_v {R : Addr → Prop} {a : Addr} {H : Hp} {v : V} {x : PV} {n : String} (r : RepE X.K R a H v x) (e : tyName x = some n) : TyOf X.K H v (.type n) := by
  cases x with
  | non => simp only [tyName, Option.some.injEq] at e; subst e; rw [r.non]; exact .non
  | bl b => simp only [tyName, Option.some.injEq] at e; subst e; rw [r.bl]; exact .bl b
  | int b => simp only [tyName, Option.some.injEq] at e; subst e; rw [r.int]; exact .int b
  | str b => simp only [tyName, Option.some.injEq] at e; subst e; rw [r.str]; exact .str b
  | tup l => simp only [tyName, Option.some.injEq] at e; subst e; obtain ⟨p, vs, rfl, h, _⟩ := r.tup; exact .tup h
  | lst l => simp only [tyName, Option.some.injEq] at e; subst e; obtain ⟨p, vs, rfl, h, _⟩ := r.lst (l := l) rfl; exact .lst h
  | own l => simp only [tyName, Option.some.injEq] at e; subst e; obtain ⟨p, vs, rfl, h, _⟩ := r.lst (l := l) rfl; exact .lst h
  | _ => simp [tyName] at e
theorem ty6_of {R : Addr → Prop} {a : Addr} {H : Hp} {v : V} {x : PV} {n : String} (r : RepE X.K R a H v x) (e : tyName x = some n) : (v = .non ∧ n = "NoneType" ∨ (∃ b, v = .bl b) ∧ n = "bool" ∨ (∃ b, v = .int b) ∧ n = "int" ∨ (∃ b, v = .str b) ∧ n = "str" ∨
  (∃ p xs, v = .ref p ∧ H p = some (.lst xs)) ∧ n = "list" ∨ (∃ p xs, v = .ref p ∧ H p = some (.tup xs)) ∧ n = "tuple") := by
  cases x with
  | non => simp only [tyName, Option.some.injEq] at e; exact .inl ⟨r.non, e.symm⟩
  | bl b => simp only [tyName, Option.some.injEq] at e; exact .inr (.inl ⟨⟨b, r.bl⟩, e.symm⟩)
  | int b => simp only [tyName, Option.some.injEq] at e; exact .inr (.inr (.inl ⟨⟨b, r.int⟩, e.symm⟩))
  | str b => simp only [tyName, Option.some.injEq] at e; exact .inr (.inr (.inr (.inl ⟨⟨b, r.str⟩, e.symm⟩)))
  | tup l => simp only [tyName, Option.some.injEq] at e; obtain ⟨p, vs, q, h, _⟩ := r.tup; exact .inr (.inr (.inr (.inr (.inr ⟨⟨p, vs, q, h⟩, e.symm⟩))))
  | lst l => simp only [tyName, Option.some.injEq] at e; obtain ⟨p, vs, q, h, _⟩ := r.lst (l := l) rfl; exact .inr (.inr (.inr (.inr (.inl ⟨⟨p, vs, q, h⟩, e.symm⟩))))
  | own l => simp only [tyName, Option.some.injEq] at e; obtain ⟨p, vs, q, h, _⟩ := r.lst (l := l) rfl; exact .inr (.inr (.inr (.inr (.inl ⟨⟨p, vs, q, h⟩, e.symm⟩))))
  | _ => simp [tyName] at e
inductive RepsE (K : PySem.W.Frag) (R : Addr → Prop) (a : Addr) (H : Hp) : List V → List PV → Prop where
  | nil : RepsE K R a H [] []
  | cons {v : V} {x : PV} {vs : List V} {xs : List PV} : RepE K R a H v x → RepsE K R a H vs xs → RepsE K R a H (v :: vs) (x :: xs)
theorem PV.pds_len : ∀ {l : List PV} {ds : List PyData}, PV.pds l = some ds → ds.length = l.length
  | [], _, e => by simp only [PV.pds, Option.some.injEq] at e; subst e; rfl
  | x :: xs, _, e => by
    simp only [PV.pds, Option.bind_eq_some_iff, Option.map_eq_some_iff] at e
    obtain ⟨d, _, es, h, rfl⟩ := e
    rw [List.length_cons, List.length_cons, PV.pds_len h]
theorem Reps.zip3 {K : PySem.W.Frag} {R : Addr → Prop} {a : Addr} {H : Hp} : ∀ {vs : List V} {xs : List PV} {ds : List PyData}, Reps K R a H vs xs → PV.pds xs = some ds → ∀ t ∈ vs.zip (xs.zip ds), Rep K R a H t.1 t.2.1 ∧ t.2.1.pd = some t.2.2
  | _, _, _, .nil, _, t, m => by simp at m
  | _, _, _, .cons r rs, e, t, m => by
    simp only [PV.pds, Option.bind_eq_some_iff, Option.map_eq_some_iff] at e
    obtain ⟨d, h1, es, h2, rfl⟩ := e
    rcases List.mem_cons.mp (show t ∈ (_, _, d) :: _ from m) with q | q
    · subst q; exact ⟨r, h1⟩
    · exact Reps.zip3 rs h2 t q
theorem Reps.of_all {K : PySem.W.Frag} {R : Addr → Prop} {a : Addr} {H : Hp} : ∀ {l : List (V × PV × PyData)}, (∀ t ∈ l, Rep K R a H t.1 t.2.1) → Reps K R a H (l.map (·.1)) (l.map (·.2.1))
  | [], _ => .nil
  | t :: l, h => .cons (h t List.mem_cons_self) (Reps.of_all fun u hu => h u (List.mem_cons_of_mem _ hu))
theorem srt_of {K : PySem.W.Frag} {R : Addr → Prop} {a : Addr} {H : Hp} {vs : List V} {xs ys : List PV} (r : Reps K R a H vs xs) (e : srtV xs = some ys) :
    ∃ bs : List (V × PyData), bs.map (·.1) = vs ∧ (∀ b ∈ bs, Dp K H b.1 b.2) ∧ PySem.W.AllAlike (bs.map (·.2)) ∧ SortT (bs.map (·.2)) ∧ (∀ b ∈ bs, b.2.depth ≤ 60) ∧ Reps K R a H ((bs.mergeSort (PySem.W.dataLe false (·.2))).map (·.1)) ys := by
  unfold srtV at e
  obtain ⟨ds, hp, e⟩ := Option.bind_eq_some_iff.mp e
  split at e
  · rename_i c
    simp only [Bool.and_eq_true] at c
    obtain ⟨⟨c1, c2⟩, c3⟩ := c
    have l1 := r.length
    have l2 := PV.pds_len hp
    have t0 := r.zip3 hp
    have m1 : (vs.zip (xs.zip ds)).map (fun t => (t.1, t.2.2)) = vs.zip ds := by
      have : ∀ (vs : List V) (xs : List PV) (ds : List PyData), vs.length = xs.length → ds.length = xs.length → (vs.zip (xs.zip ds)).map (fun t => (t.1, t.2.2)) = vs.zip ds := by
        intro vs
        induction vs with
        | nil => intro xs ds _ _; rfl
        | cons v vs ih =>
          intro xs ds h1 h2
          cases xs with
          | nil => simp at h1
          | cons x xs =>
            cases ds with
            | nil => simp at h2
            | cons d ds => simp only [List.zip_cons_cons, List.map_cons]; rw [ih xs ds (by simpa using h1) (by simpa using h2)]
      exact this vs xs ds l1 l2
    have m2 : (vs.zip (xs.zip ds)).map (fun t => t.2) = xs.zip ds := List.map_snd_zip (by rw [List.length_zip]; omega)
    have ms : (vs.zip ds).map (·.2) = ds := List.map_snd_zip (by omega)
    refine ⟨vs.zip ds, List.map_fst_zip (by omega), ?_, ?_, ?_, ?_, ?_⟩
    · intro b hb
      rw [← m1] at hb
      obtain ⟨t, ht, rfl⟩ := List.mem_map.mp hb
      exact (t0 t ht).1.dp (t0 t ht).2
    · rw [ms]
      intro d hd d' hd'
      exact List.all_eq_true.mp (List.all_eq_true.mp c1 d hd) d' hd'
    · rw [ms]
      rcases Bool.or_eq_true_iff.mp c2 with c2 | c2
      · refine .inr ?_
        intro d hd
        have q := List.all_eq_true.mp c2 d hd
        unfold isTup1 at q
        split at q
        · exact ⟨_, rfl⟩
        · cases q
      · refine .inl (.inr ?_)
        intro d hd
        have q := List.all_eq_true.mp c2 d hd
        constructor
        · intro z; subst z; simp [isOt] at q
        · intro xs z; subst z; simp [isOt] at q
    · intro b hb
      have : b.2 ∈ ds := by rw [← ms]; exact List.mem_map_of_mem hb
      exact of_decide_eq_true (List.all_eq_true.mp c3 _ this)
    · simp only [Option.some.injEq] at e
      subst e
      have tl : PySem.W.TotalLe srtLe := PySem.W.sortLe_total (PyProof.Rows.listOrd PyProof.Rows.itemOrd) false fun b : PV × PyData => PySem.W.keyToks b.2
      rw [isort_eq tl, ← m2, ← m1]
      rw [← PySem.W.sort_maps (r := fun p q : V × PV × PyData => !PySem.W.dataLt q.2.2 p.2.2) (s := PySem.W.dataLe false (·.2)) (fun t : V × PV × PyData => (t.1, t.2.2)) (fun _ _ _ _ => rfl),
        ← PySem.W.sort_maps (r := fun p q : V × PV × PyData => !PySem.W.dataLt q.2.2 p.2.2) (s := srtLe) (fun t : V × PV × PyData => t.2) (fun _ _ _ _ => rfl), List.map_map, List.map_map]
      exact Reps.of_all fun t ht => (t0 t (List.mem_mergeSort.mp ht)).1
  · cases e
theorem foldl_min : ∀ (l : List Int) (x : Int), (l.foldl (fun a b => if b < a then b else a) x = x ∨ l.foldl (fun a b => if b < a then b else a) x ∈ l) ∧ l.foldl (fun a b => if b < a then b else a) x ≤ x ∧ ∀ y ∈ l, l.foldl (fun a b => if b < a then b else a) x ≤ y
  | [], x => ⟨.inl rfl, Int.le_refl _, fun _ h => by simp at h⟩
  | z :: l, x => by
    obtain ⟨h1, h2, h3⟩ := foldl_min l (if z < x then z else x)
    rw [List.foldl_cons]
    by_cases hz : z < x
    · rw [if_pos hz] at h1 h2 h3 ⊢
      refine ⟨.inr (h1.elim (fun e => by rw [e]; exact List.mem_cons_self) fun m => List.mem_cons_of_mem _ m), by omega, fun y hy => ?_⟩
      rcases List.mem_cons.mp hy with rfl | hy
      · exact h2
      · exact h3 y hy
    · rw [if_neg hz] at h1 h2 h3 ⊢
      refine ⟨h1.imp id fun m => List.mem_cons_of_mem _ m, h2, fun y hy => ?_⟩
      rcases List.mem_cons.mp hy with rfl | hy
      · omega
      · exact h3 y hy
theorem foldl_max : ∀ (l : List Int) (x : Int), (l.foldl (fun a b => if a < b then b else a) x = x ∨ l.foldl (fun a b => if a < b then b else a) x ∈ l) ∧ x ≤ l.foldl (fun a b => if a < b then b else a) x ∧ ∀ y ∈ l, y ≤ l.foldl (fun a b => if a < b then b else a) x
  | [], x => ⟨.inl rfl, Int.le_refl _, fun _ h => by simp at h⟩
  | z :: l, x => by
    obtain ⟨h1, h2, h3⟩ := foldl_max l (if x < z then z else x)
    rw [List.foldl_cons]
    by_cases hz : x < z
    · rw [if_pos hz] at h1 h2 h3 ⊢
      refine ⟨.inr (h1.elim (fun e => by rw [e]; exact List.mem_cons_self) fun m => List.mem_cons_of_mem _ m), by omega, fun y hy => ?_⟩
      rcases List.mem_cons.mp hy with rfl | hy
      · exact h2
      · exact h3 y hy
    · rw [if_neg hz] at h1 h2 h3 ⊢
      refine ⟨h1.imp id fun m => List.mem_cons_of_mem _ m, h2, fun y hy => ?_⟩
      rcases List.mem_cons.mp hy with rfl | hy
      · omega
      · exact h3 y hy
theorem minL_spec {l : List Int} {m : Int} (h : minL l = some m) : 0 < l.length ∧ m ∈ l ∧ ∀ y ∈ l, m ≤ y := by
  cases l with
  | nil => cases h
  | cons x l =>
    simp only [minL, Option.some.injEq] at h
    obtain ⟨h1, h2, h3⟩ := foldl_min l x
    rw [h] at h1 h2 h3
    refine ⟨by simp, ?_, fun y hy => ?_⟩
    · rcases h1 with e | e
      · rw [e]; exact List.mem_cons_self
      · exact List.mem_cons_of_mem _ e
    · rcases List.mem_cons.mp hy with rfl | hy
      · exact h2
      · exact h3 y hy
theorem maxL_spec {l : List Int} {m : Int} (h : maxL l = some m) : 0 < l.length ∧ m ∈ l ∧ ∀ y ∈ l, y ≤ m := by
  cases l with
  | nil => cases h
  | cons x l =>
    simp only [maxL, Option.some.injEq] at h
    obtain ⟨h1, h2, h3⟩ := foldl_max l x
    rw [h] at h1 h2 h3
    refine ⟨by simp, ?_, fun y hy => ?_⟩
    · rcases h1 with e | e
      · rw [e]; exact List.mem_cons_self
      · exact List.mem_cons_of_mem _ e
    · rcases List.mem_cons.mp hy with rfl | hy
      · exact h2
      · exact h3 y hy
theorem bi_ok (hr : Room 0 X.A) (hc : X.calm = true) (b : Bi) : ∃ r : List V → Hp → VK → Prop, CallR X (biVal b) r ∧
    ∀ {R : Addr → Prop} {a : Addr} {H : Hp} {S : Strm} {xs : List PV} {z : PV} {vs : List V} {Q : VK}, Fresh R a H → SRel X.K R a H S → RepsE X.K R a H vs xs → biV b xs = some z → Fin X.K R a H S z Q → r vs H Q := by
  cases b with
  | len =>
    refine ⟨_, call_len_seq, ?_⟩
    intro R a H S xs z vs Q f s r e h
    cases r with
    | nil => simp [biV] at e
    | cons r rs =>
      cases rs with
      | cons _ _ => simp [biV] at e
      | nil =>
        simp only [biV, Option.map_eq_some_iff] at e
        obtain ⟨l, h1, h2⟩ := e
        subst h2
        obtain ⟨p, ws, rfl, hp, q⟩ := r.seq h1
        refine ⟨p, ws, rfl, hp.elim (fun z => .inl (SqL.of z)) (fun z => .inr (SqT.of z)), ?_⟩
        rw [q.length]
        exact fin_int s h
  | all =>
    refine ⟨_, cr_all hc, ?_⟩
    intro R a H S xs z vs Q f s r e h
    cases r with
    | nil => simp [biV] at e
    | cons r rs =>
      cases rs with
      | cons _ _ => simp [biV] at e
      | nil =>
        simp only [biV, Option.map_eq_some_iff, Option.bind_eq_some_iff] at e
        obtain ⟨l, ⟨l0, h0, h1⟩, h2⟩ := e
        subst h2
        have hb := bls_of h1
        subst hb
        obtain ⟨p, ws, rfl, hp, q⟩ := r.lst h0
        have hw := q.bls
        subst hw
        exact ⟨p, l, rfl, SqL.of hp, fin_bl s h⟩
  | any =>
    refine ⟨_, cr_any hc, ?_⟩
    intro R a H S xs z vs Q f s r e h
    cases r with
    | nil => simp [biV] at e
    | cons r rs =>
      cases rs with
      | cons _ _ => simp [biV] at e
      | nil =>
        simp only [biV, Option.map_eq_some_iff, Option.bind_eq_some_iff] at e
        obtain ⟨l, ⟨l0, h0, h1⟩, h2⟩ := e
        subst h2
        have hb := bls_of h1
        subst hb
        obtain ⟨p, ws, rfl, hp, q⟩ := r.lst h0
        have hw := q.bls
        subst hw
        exact ⟨p, l, rfl, SqL.of hp, fin_bl s h⟩
  | sum =>
    refine ⟨_, cr_sum hc, ?_⟩
    intro R a H S xs z vs Q f s r e h
    cases r with
    | nil => simp [biV] at e
    | cons r rs =>
      cases rs with
      | cons _ _ => simp [biV] at e
      | nil =>
        simp only [biV, Option.map_eq_some_iff, Option.bind_eq_some_iff] at e
        obtain ⟨l, ⟨l0, h0, h1⟩, h2⟩ := e
        subst h2
        have hb := ints_of h1
        subst hb
        obtain ⟨p, ws, rfl, hp, q⟩ := r.lst h0
        have hw := q.ints
        subst hw
        exact ⟨p, l, rfl, SqL.of hp, fin_int s h⟩
  | list =>
    refine ⟨_, call_list_of, ?_⟩
    intro R a H S xs z vs Q f s r e h
    cases r with
    | nil => simp [biV] at e
    | cons r rs =>
      cases rs with
      | cons _ _ => simp [biV] at e
      | nil =>
        simp only [biV, Option.map_eq_some_iff] at e
        obtain ⟨l, h1, h2⟩ := e
        subst h2
        obtain ⟨p, ws, rfl, hp, q⟩ := r.seq h1
        exact ⟨p, ws, rfl, hp.elim (fun z => .inl (SqL.of z)) (fun z => .inr (SqT.of z)), fin_lst f s q h⟩
  | tuple =>
    refine ⟨_, call_tuple_of, ?_⟩
    intro R a H S xs z vs Q f s r e h
    cases r with
    | nil => simp [biV] at e
    | cons r rs =>
      cases rs with
      | cons _ _ => simp [biV] at e
      | nil =>
        simp only [biV, Option.map_eq_some_iff] at e
        obtain ⟨l, h1, h2⟩ := e
        subst h2
        rename_i x
        cases x with
        | tup l' =>
          simp only [PV.seq?, Option.some.injEq] at h1
          subst h1
          have rr := r
          obtain ⟨p, ws, rfl, hp, n, q⟩ := r.tup
          exact ⟨p, ws, rfl, .inr ⟨SqT.of hp, fin_here s rr h⟩⟩
        | lst l' =>
          obtain ⟨p, ws, rfl, hp, q⟩ := r.lst (l := l) h1
          exact ⟨p, ws, rfl, .inl ⟨SqL.of hp, fin_tup f s q h⟩⟩
        | own l' =>
          obtain ⟨p, ws, rfl, hp, q⟩ := r.lst (l := l) h1
          exact ⟨p, ws, rfl, .inl ⟨SqL.of hp, fin_tup f s q h⟩⟩
        | _ => simp [PV.seq?] at h1
  | sorted =>
    refine ⟨_, cr_srt hr.units, ?_⟩
    intro R a H S xs z vs Q f s r e h
    cases r with
    | nil => simp [biV] at e
    | cons r rs =>
      cases rs with
      | cons _ _ => simp [biV] at e
      | nil =>
        simp only [biV, Option.map_eq_some_iff, Option.bind_eq_some_iff] at e
        obtain ⟨l, ⟨l0, h0, h1⟩, h2⟩ := e
        subst h2
        obtain ⟨p, ws, rfl, hp, q⟩ := r.seq h0
        obtain ⟨bs, b1, b2, b3, b4, b5, b6⟩ := srt_of q h1
        subst b1
        exact ⟨p, bs, rfl, hp.elim (fun z => .inl (SqL.of z)) (fun z => .inr (SqT.of z)), b2, b3, b4, b5, fin_lst f s b6 h⟩
  | min1 =>
    refine ⟨_, cr_min hc, ?_⟩
    intro R a H S xs z vs Q f s r e h
    cases r with
    | nil => simp [biV] at e
    | cons r rs =>
      cases rs with
      | cons _ _ => rename_i x _ _ _ _; cases x <;> simp [biV] at e
      | nil =>
        simp only [biV, Option.map_eq_some_iff, Option.bind_eq_some_iff] at e
        obtain ⟨m, ⟨l, ⟨l0, h0, h1⟩, h3⟩, h2⟩ := e
        subst h2
        have hb := ints_of h1
        subst hb
        obtain ⟨p, ws, rfl, hp, q⟩ := r.lst h0
        have hw := q.ints
        subst hw
        obtain ⟨g1, g2, g3⟩ := minL_spec h3
        refine ⟨p, l, rfl, SqL.of hp, g1, fun m' k1 k2 => ?_⟩
        have : m' = m := Int.le_antisymm (k2 m g2) (g3 m' k1)
        rw [this]
        exact fin_int s h
  | mind =>
    refine ⟨_, cr_minD hc hr.units, ?_⟩
    intro R a H S xs z vs Q f s r e h
    cases r with
    | nil => simp [biV] at e
    | cons r rs =>
      cases rs with
      | cons _ _ => simp [biV] at e
      | nil =>
        simp only [biV, Option.bind_eq_some_iff] at e
        obtain ⟨l0, h0, h1⟩ := e
        simp only [mnV, Option.bind_eq_some_iff] at h1
        obtain ⟨ds, h2, h3⟩ := h1
        obtain ⟨p, ws, rfl, hp, q⟩ := r.lst h0
        cases ds with
        | nil => cases h3
        | cons d dr =>
          dsimp only at h3
          split at h3
          case isFalse => cases h3
          rename_i hk
          simp only [Bool.and_eq_true, List.all_eq_true, decide_eq_true_eq] at hk
          simp only [Option.some.injEq] at h3
          subst h3
          refine ⟨p, ws, d, dr, rfl, SqL.of hp, q.dp h2, ⟨hk.1.1, fun x hx z => ?_⟩, hk.2, fun i v hv hi => ?_⟩
          · have := hk.1.2 x hx
            rw [z] at this
            cases this
          · obtain ⟨x, hx1, hx2⟩ := pds_get h2 hi
            obtain ⟨w, hw1, hw2⟩ := q.get hx1
            rw [hv] at hw1
            cases hw1
            have ez := hw2.ofD hx2
            rw [ez] at h
            exact h v H Keep.refl s (Rep.toE hw2)
  | max1 =>
    refine ⟨_, cr_max hc, ?_⟩
    intro R a H S xs z vs Q f s r e h
    cases r with
    | nil => simp [biV] at e
    | cons r rs =>
      cases rs with
      | cons _ _ => rename_i x _ _ _ _; cases x <;> simp [biV] at e
      | nil =>
        simp only [biV, Option.map_eq_some_iff, Option.bind_eq_some_iff] at e
        obtain ⟨m, ⟨l, ⟨l0, h0, h1⟩, h3⟩, h2⟩ := e
        subst h2
        have hb := ints_of h1
        subst hb
        obtain ⟨p, ws, rfl, hp, q⟩ := r.lst h0
        have hw := q.ints
        subst hw
        obtain ⟨g1, g2, g3⟩ := maxL_spec h3
        refine ⟨p, l, rfl, SqL.of hp, g1, fun m' k1 k2 => ?_⟩
        have : m' = m := Int.le_antisymm (g3 m' k1) (k2 m g2)
        rw [this]
        exact fin_int s h
  | min2 =>
    refine ⟨_, call_min2 hc, ?_⟩
    intro R a H S xs z vs Q f s r e h
    cases r with
    | nil => simp [biV] at e
    | cons r rs =>
      cases rs with
      | nil => rename_i x; cases x <;> simp [biV] at e
      | cons r2 rs =>
        cases rs with
        | cons _ _ => rename_i x _ y _ _; cases x <;> cases y <;> simp [biV] at e
        | nil =>
          rename_i x _ y
          cases x <;> first | (simp [biV] at e; done) | (cases y <;> first | (simp [biV] at e; done) | (simp only [biV, Option.some.injEq] at e; subst e; exact ⟨_, _, by rw [r.int, r2.int], fin_int s h⟩))
  | max2 =>
    refine ⟨_, call_max2 hc, ?_⟩
    intro R a H S xs z vs Q f s r e h
    cases r with
    | nil => simp [biV] at e
    | cons r rs =>
      cases rs with
      | nil => rename_i x; cases x <;> simp [biV] at e
      | cons r2 rs =>
        cases rs with
        | cons _ _ => rename_i x _ y _ _; cases x <;> cases y <;> simp [biV] at e
        | nil =>
          rename_i x _ y
          cases x <;> first | (simp [biV] at e; done) | (cases y <;> first | (simp [biV] at e; done) | (simp only [biV, Option.some.injEq] at e; subst e; exact ⟨_, _, by rw [r.int, r2.int], fin_int s h⟩))
  | abs =>
    refine ⟨_, call_abs, ?_⟩
    intro R a H S xs z vs Q f s r e h
    cases r with
    | nil => simp [biV] at e
    | cons r rs =>
      cases rs with
      | cons _ _ => rename_i x _ _ _; cases x <;> simp [biV] at e
      | nil =>
        rename_i x
        cases x <;> first | (simp [biV] at e; done) | (simp only [biV, Option.some.injEq] at e; subst e; exact ⟨_, by rw [r.int], fin_int s h⟩)
  | int =>
    refine ⟨_, call_int1, ?_⟩
    intro R a H S xs z vs Q f s r e h
    cases r with
    | nil => simp [biV] at e
    | cons r rs =>
      cases rs with
      | cons _ _ => rename_i x _ _ _; cases x <;> simp [biV] at e
      | nil =>
        rename_i x
        cases x <;> first | (simp [biV] at e; done) | (simp only [biV, Option.some.injEq] at e; subst e; first | exact .inl ⟨_, by rw [r.int], fin_int s h⟩ | exact .inr ⟨_, by rw [r.bl], fin_int s h⟩)
  | type =>
    refine ⟨_, call_type6, ?_⟩
    intro R a H S xs z vs Q f s r e h
    cases r with
    | nil => simp [biV] at e
    | cons r rs =>
      cases rs with
      | cons _ _ => simp [biV] at e
      | nil =>
        simp only [biV, Option.map_eq_some_iff] at e
        obtain ⟨n, h1, h2⟩ := e
        subst h2
        exact ⟨_, n, rfl, ty6_of r h1, fin_ty s h⟩
  | isi =>
    refine ⟨_, call_isi, ?_⟩
    intro R a H S xs z vs Q f s r e h
    cases r with
    | nil => simp [biV] at e
    | cons r rs =>
      cases rs with
      | nil => simp [biV] at e
      | cons r2 rs =>
        cases rs with
        | cons _ _ => rename_i x _ y _ _; cases y <;> simp [biV] at e
        | nil =>
          rename_i x _ y
          cases y with
          | ty m =>
            simp only [biV, Option.bind_eq_some_iff, Option.map_eq_some_iff] at e
            obtain ⟨n, h1, k, h2, h3⟩ := e
            subst h3
            have e2 := r2.ty
            subst e2
            exact ⟨_, _, _, _, k, rfl, .ty m, .base (tyOf_v r h1), kit_ty h2, fin_bl s h⟩
          | _ => simp [biV] at e
end
end Ws

/-! Ws5: the check that a text in short is the text (chkE), and that it is worth what evE says. -/
namespace Ws
open PySem PySem.Spec PyProof.Rows L2

def gl (sc : Scope) (x : Str) : Bool := sc.names.lookup x == some .globalImplicit
def vis (sc : Scope) (x : Str) : Bool := match sc.names.lookup x with
  | some .local => true
  | some .cell => true
  | some .free => true
  | _ => false
/-- a name that a target may store: a local, a cell of the very block -/
def loc (sc : Scope) (x : Str) : Bool := match sc.names.lookup x with
  | some .local => true
  | some .cell => true
  | _ => false
def okName (x : Str) : Bool := !(x == ("__debug__" : Str)) && !(x == ("__classdict__" : Str))
def opOf : BOp → Operator
  | .add => .Add | .sub => .Sub | .mul => .Mult | .mod => .Mod | .fdiv => .FloorDiv | .pow => .Pow
def notStar : Expr → Bool
  | .Starred _ _ => false
  | _ => true
def notSet : Expr → Bool
  | .Set _ _ _ => false
  | _ => true
/-- what a name that is no def's stands for: nothing of the module (a built-in), or what was imported -/
def btV (x : Str) : Option Value := if x = "combinations" then some (.type "itertools.combinations") else if x = "gcd" then some (.builtin "math.gcd") else none
/-- names of built-ins that no module's name hides -/
def chkTg (N : List Str) (sc : Scope) : Expr → Tg → Bool
  | .Name x _, .nm i => (N[i]? == some x) && loc sc x
  | .Tuple es _ _, .tp l => go es l
  | .Tuple [.Tuple es _ _, .Name x _] _ _, .ns l j => go es l && (N[j]? == some x) && loc sc x
  | _, _ => false
where
  go : List Expr → List Nat → Bool
  | [], [] => true
  | .Name x _ :: es, i :: l => (N[i]? == some x) && loc sc x && go es l
  | _, _ => false
def tgIn (t : Tg) (vs : List Nat) : Bool := (tgIx t).all fun i => vs.contains i
def chkL (ck : Expr → CE → Bool) : List Expr → List CE → Bool
  | [], [] => true
  | e :: es, c :: cs => notStar e && ck e c && chkL ck es cs
  | _, _ => false
def chkO (ck : Expr → CE → Bool) : Option Expr → Option CE → Bool
  | none, none => true
  | some e, some c => ck e c
  | _, _ => false
def isTupE : Expr → Bool
  | .Tuple _ _ _ => true
  | _ => false
section
variable (bts : List Str) (N : List Str)
def chkI (ck : Expr → CE → Bool) (sc : Scope) (tg : Expr) : Expr → CI → Bool
  | .Call (.Name x _) [b] [] _, .rng1 b' => (x == ("range" : Str)) && gl sc x && bts.contains x && notStar b && ck b b'
  | .Call (.Name x _) [a, b] [] _, .rng2 a' b' => (x == ("range" : Str)) && gl sc x && bts.contains x && notStar a && notStar b && ck a a' && ck b b'
  | .Call (.Name x _) [a, b] [] _, .zip a' b' => (x == ("zip" : Str)) && gl sc x && bts.contains x && notStar a && notStar b && isTupE tg && ck a a' && ck b b'
  | .Call (.Name x _) [.Call (.Name y _) [b] [] _, m] [] _, .cb1 b' m' => (x == ("combinations" : Str)) && gl sc x && bts.contains x && (y == ("range" : Str)) && gl sc y && bts.contains y && notStar b && notStar m && ck b b' && ck m m'
  | .Call (.Name x _) [.Call (.Name y _) [a, b] [] _, m] [] _, .cb2 a' b' m' => (x == ("combinations" : Str)) && gl sc x && bts.contains x && (y == ("range" : Str)) && gl sc y && bts.contains y && notStar a && notStar b && notStar m && ck a a' && ck b b' && ck m m'
  | .Call (.Name x _) [e, m] [] _, .cbl e' m' => (x == ("combinations" : Str)) && gl sc x && bts.contains x && notStar e && notStar m && ck e e' && ck m m'
  | .Call (.Name x _) [e] [] _, .enum e' => (x == ("enumerate" : Str)) && gl sc x && bts.contains x && notStar e && isTupE tg && ck e e'
  | e, .seq c => ck e c
  | _, _ => false
/-- the tests of a clause -/
def chkIf (ck : Expr → CE → Bool) : List Expr → Option CE → Bool
  | [], none => true
  | [d], some d' => ck d d'
  | _, _ => false
def chkE : Nat → Scope → Expr → CE → Bool
  | 0, _, _, _ => false
  | n + 1, sc, e, c =>
    match e, c with
    | .BoolOp _ [x] _, c => chkE n sc x c
    | .Constant .none _ _, .non => true
    | .Constant (.bool b) _ _, .bl b' => b == b'
    | .Constant (.int b) _ _, .int b' => b == b'
    | .Constant (.str b) _ _, .str b' => b == b'
    | .Name x _, .ty s => gl sc x && bts.contains x && (["int", "str", "bool", "tuple", "list"].contains s) && (x == Str.ofString s)
    | .Name x _, .var i => (N[i]? == some x) && vis sc x && okName x
    | .Name x _, .glo g => (x == g) && gl sc x && okName x
    | .Tuple es _ _, .tup l => chkL (chkE n sc) es l
    | .List es _, .lst l => chkL (chkE n sc) es l
    | .BinOp x o y _, .bin o' a b => (o == opOf o') && chkE n sc x a && chkE n sc y b
    | .UnaryOp .USub x _, .neg a => chkE n sc x a
    | .UnaryOp .Not x _, .not a => chkE n sc x a
    | .BoolOp .And (x :: y :: r) p, .and a b => chkE n sc x a && chkE n sc (.BoolOp .And (y :: r) p) b
    | .BoolOp .Or (x :: y :: r) p, .or a b => chkE n sc x a && chkE n sc (.BoolOp .Or (y :: r) p) b
    | .Compare x [o] [y] _, .cmp o' a b => (o == cOp o') && chkE n sc x a && chkE n sc y b && (behindInMarks o y == false)
    | .Compare x [o, o2] [y, z] _, .chain o' o2' a b d => (o == cOp o') && (o2 == cOp o2') && chkE n sc x a && chkE n sc y b && chkE n sc z d && (lastMarks [o, o2] [y, z] == false)
    | .IfExp t x y _, .ite d a b => chkE n sc t d && chkE n sc x a && chkE n sc y b
    | .Subscript x (.Slice lo hi none _) _, .sli a l h => chkE n sc x a && chkO (chkE n sc) lo l && chkO (chkE n sc) hi h
    | .Subscript x y _, .idx a i => chkE n sc x a && chkE n sc y i && (match y with | .Slice _ _ _ _ => false | _ => true)
    | .Call (.Name x _) (y :: es) [] _, .call f l => (x == f) && gl sc x && okName x && chkL (chkE n sc) (y :: es) l
    | .Call (.Name x _) (y :: es) [] _, .bi b l => (x == biName b) && gl sc x && bts.contains x && chkL (chkE n sc) (y :: es) l
    | .ListComp elt [⟨tg, it, ifs, 0⟩] scope _, .comp elt' tg' it' ifs' own =>
      chkI bts (chkE n sc) sc tg it it' && notSet it && blkC N sc scope own && chkTg N scope tg tg' && tgIn tg' (own.map (·.2)) &&
      (match ifs, ifs' with
        | [], none => true
        | [d], some d' => chkE n (relS scope sc) d d'
        | _, _ => false) && chkE n (relS scope sc) elt elt'
    | .ListComp elt [⟨tg, it, ifs, 0⟩, ⟨tg1, it1, ifs1, 0⟩] scope _, .comp2 elt' tg' it' ifs' tg1' it1' ifs1' own =>
      chkI bts (chkE n sc) sc tg it it' && notSet it && notSet it1 && blkC N sc scope own && chkTg N scope tg tg' && tgIn tg' (own.map (·.2)) && chkTg N scope tg1 tg1' && tgIn tg1' (own.map (·.2)) &&
      chkI bts (chkE n (relS scope sc)) (relS scope sc) tg1 it1 it1' && chkIf (chkE n (relS scope sc)) ifs ifs' && chkIf (chkE n (relS scope sc)) ifs1 ifs1' && chkE n (relS scope sc) elt elt'
    | .Subscript x (.Slice none none (some (.UnaryOp .USub (.Constant (.int j) _ _) _)) _) _, .rev a => (j == 1) && chkE n sc x a
    | .Call (.Name x _) [.Call (.Name y _) [b] [] _] [] _, .sset b' => (x == ("sorted" : Str)) && gl sc x && bts.contains x && (y == ("set" : Str)) && gl sc y && bts.contains y && notStar b && chkE n sc b b'
    | .Call (.Name x _) [y, z] [] _, .gcd a b => (x == ("gcd" : Str)) && gl sc x && bts.contains x && notStar y && notStar z && chkE n sc y a && chkE n sc z b
    | .Call (.Name x _) [.Call (.Name y _) [b] [] _] [] _, .rg1 t b' => (x == (if t then ("tuple" : Str) else "list")) && gl sc x && bts.contains x && (y == ("range" : Str)) && gl sc y && bts.contains y && notStar b && chkE n sc b b'
    | .Call (.Name x _) [.Call (.Name y _) [a, b] [] _] [] _, .rg2 t a' b' => (x == (if t then ("tuple" : Str) else "list")) && gl sc x && bts.contains x && (y == ("range" : Str)) && gl sc y && bts.contains y && notStar a && notStar b && chkE n sc a a' && chkE n sc b b'
    | .Tuple (.Starred e _ :: es) _ _, .cat t a l => t && chkE n sc e a && chkL (chkE n sc) es l
    | .List (.Starred e _ :: es) _, .cat t a l => !t && chkE n sc e a && chkL (chkE n sc) es l
    | .Call (.Name x _) [.SetComp elt [⟨tg, it, [], 0⟩, ⟨tg1, it1, [], 0⟩] scope _] [] _, .nsc elt' tg' it' tg1' it1' own =>
      (x == ("len" : Str)) && gl sc x && bts.contains x && chkI bts (chkE n sc) sc tg it it' && notSet it && notSet it1 && blkC N sc scope own && chkTg N scope tg tg' && tgIn tg' (own.map (·.2)) && chkTg N scope tg1 tg1' && tgIn tg1' (own.map (·.2)) &&
      chkI bts (chkE n (relS scope sc)) (relS scope sc) tg1 it1 it1' && chkE n (relS scope sc) elt elt'
    | _, _ => false
end

/-! ### where a def's body runs -/
/-- the promise of a def that is worth φ -/
def spF (K : PySem.W.Frag) (np : Nat) (φ : Fn) : Sp := fun vs H Q E => ∃ (R : Addr → Prop) (a : Addr) (xs : List PV) (S : Strm) (r : Out) (S' : Strm), Fresh R a H ∧ Reps K R a H vs xs ∧ SRel K R a H S ∧ xs.length = np ∧ φ xs S = some (r, S') ∧
  match r with
  | .ret x => ∀ v H', Keep a H H' → SRel K R a H' S' → Rep K R a H' v x → Q v H'
  | .exc _ _ => False
structure FnT (X : Cx) (f : Str) (φ : Nat × Fn) : Prop where
  ex : ∃ p fd ps k cx, ps.length = φ.1 ∧ X.mg f = some (.ref p) ∧ PySem.W.keepIn X.K (.ref p) = true ∧ Binds X.K fd ps [] ∧ FnOk X.prog X.w X.K X.mg X.base cx k p fd ps (spF X.K φ.1 φ.2) ∧ Room k X.A ∧ ∀ Y : Cx, Y.prog = X.prog → Y.w = X.w → Passes cx Y E0
structure Good (T : Tbl) (bts N : List Str) (sc : Scope) (X : Cx) : Prop where
  hN : X.N = N
  hs : X.env.scope = sc
  calm : X.calm = true
  nd : N.Nodup
  room : Room 0 X.A
  fns : ∀ f φ, T.fn f = some φ → FnT X f φ
  glo : ∀ x i, T.glo x = some i → ∃ t, X.mg x = some (.int i t)
  bts : ∀ b ∈ bts, X.mg b = btV b
section
variable {T : Tbl} {bts N : List Str} {sc : Scope} {X : Cx}
theorem Good.blk (g : Good T bts N sc X) (s : Shared) (H : Hp) (scope : Scope) (C : Addr) (cl : List (Str × Addr)) (fp : List Addr) : Good T bts N (relS scope sc) (X.blk s H scope (compEnvC scope cl C X.env) fp) :=
  ⟨g.hN, by rw [← g.hs]; rfl, g.calm, g.nd, g.room, fun f φ h => let ⟨x⟩ := g.fns f φ h; ⟨x⟩, g.glo, g.bts⟩
theorem Good.gl (g : Good T bts N sc X) {x : Str} (h : gl sc x = true) : Gl X x := by
  show X.env.scope.names.lookup x = some .globalImplicit
  rw [g.hs]
  simpa [Ws.gl] using h
theorem Good.vis (g : Good T bts N sc X) {x : Str} (h : vis sc x = true) : Vis X.env.scope x := by
  unfold Ws.vis at h
  rw [g.hs]
  unfold Vis
  split at h <;> rename_i e
  · exact .inl e
  · exact .inr (.inl e)
  · exact .inr (.inr e)
  · cases h
theorem Good.loc (g : Good T bts N sc X) {x : Str} (h : loc sc x = true) : L2.Loc X.env.scope x := by
  unfold Ws.loc at h
  rw [g.hs]
  unfold L2.Loc
  split at h <;> rename_i e
  · exact .inl e
  · exact .inr e
  · cases h
theorem Good.ix (g : Good T bts N sc X) {i : Nat} {x : Str} (h : (N[i]? == some x) = true) : X.N[i]? = some x := by rw [g.hN]; simpa using h
theorem Good.bt (g : Good T bts N sc X) {x : Str} (h : bts.contains x = true) (hv : btV x = none := by decide) : X.mg x = none := (g.bts x (by simpa using h)).trans hv
theorem btV_bi (b : Bi) : btV (biName b) = none := by cases b <;> decide
theorem Good.gcd (g : Good T bts N sc X) (h : bts.contains ("gcd" : Str) = true) : X.mg "gcd" = some (.builtin "math.gcd") := (g.bts _ (by simpa using h)).trans (by decide)
theorem Good.cmb (g : Good T bts N sc X) (h : bts.contains ("combinations" : Str) = true) : X.mg "combinations" = some (.type "itertools.combinations") := (g.bts _ (by simpa using h)).trans (by decide)
end
theorem _root_.L2.PE.imp {X : Cx} {e : Expr} {t t' : TE} (h : PE X e t) (m : ∀ σ H Q, t' σ H Q → t σ H Q) : PE X e t' := ⟨fun pins s σ H Q I q => h.run pins s σ H Q I (m σ H Q q)⟩
theorem _root_.L2.PT.imp {X : Cx} {e : Expr} {t t' : TT} (h : PT X e t) (m : ∀ σ H Q, t' σ H Q → t σ H Q) : PT X e t' := ⟨fun pins s σ H Q I q => h.run pins s σ H Q I (m σ H Q q)⟩
theorem _root_.L2.PW.imp {X : Cx} {e : Expr} {t t' : TT} (h : PW X e t) (m : ∀ σ H Q, t' σ H Q → t σ H Q) : PW X e t' := ⟨fun w pins s σ H Q I q => h.run w pins s σ H Q I (m σ H Q q)⟩
theorem _root_.L2.PA.imp {X : Cx} {e : List Expr} {t t' : TA} (h : PA X e t) (m : ∀ σ H Q, t' σ H Q → t σ H Q) : PA X e t' := ⟨fun w pins s σ H Q I q => h.run w pins s σ H Q I (m σ H Q q)⟩
theorem star1 {e : Expr} {es : List Expr} {env : PySem.Env} (h : notStar e = true) : starEach (e :: es) env = (false, eval e env) :: starEach es env := by
  cases e <;> first | rfl | (simp [notStar] at h)

/-! ### the readings -/
section
variable (T : Tbl) (K : PySem.W.Frag)
/-- where one stands: R, the stream's address, the names' values, the stream -/
structure At (σ : L2.St) (H : Hp) (R : Addr → Prop) (a : Addr) (env : Env) (S : Strm) : Prop where
  fr : Fresh R a H
  en : EnvE K R a H σ env
  sr : SRel K R a H S
def tV (n : Nat) (c : CE) : TE := fun σ H Q => ∃ R a env S x S', At K σ H R a env S ∧ evE T n c env S = some (x, S') ∧ ∀ v H', Keep a H H' → SRel K R a H' S' → RepE K R a H' v x → Q v H'
def tVs (n : Nat) (l : List CE) : TA := fun σ H Q => ∃ R a env S xs S', At K σ H R a env S ∧ evL (fun e S => evE T n e env S) l S = some (xs, S') ∧ ∀ vs H', Keep a H H' → SRel K R a H' S' → RepsE K R a H' vs xs → Q vs H'
def tB (n : Nat) (c : CE) : TT := fun σ H Q => ∃ R a env S x S' b, At K σ H R a env S ∧ evE T n c env S = some (x, S') ∧ x.tru = some b ∧ ∀ H', Keep a H H' → SRel K R a H' S' → Q b H'
end
section
variable {K : PySem.W.Frag} {σ : L2.St} {H H' : Hp} {R : Addr → Prop} {a : Addr} {env : Env} {S S' : Strm}
theorem At.keep (h : At K σ H R a env S) (k : Keep a H H') (s : SRel K R a H' S') : At K σ H' R a env S' := ⟨h.fr.keep k, h.en.keep k, s⟩
theorem RepsE.keep (k : Keep a H H') : ∀ {vs : List V} {xs : List PV}, RepsE K R a H vs xs → RepsE K R a H' vs xs
  | _, _, .nil => .nil
  | _, _, .cons r t => .cons (r.keep k) (RepsE.keep k t)
theorem RepsE.length : ∀ {vs : List V} {xs : List PV}, RepsE K R a H vs xs → vs.length = xs.length
  | _, _, .nil => rfl
  | _, _, .cons r t => by rw [List.length_cons, List.length_cons, RepsE.length t]
theorem RepsE.reps : ∀ {vs : List V} {xs : List PV}, RepsE K R a H vs xs → xs.all (fun x => !x.isOwn) = true → Reps K R a H vs xs
  | _, _, .nil, _ => .nil
  | _, _, .cons r t, h => by
    rw [List.all_cons, Bool.and_eq_true] at h
    exact .cons (r.rep (by simpa using h.1)) (RepsE.reps t h.2)
end
/-- a list of expressions -/
theorem pa_ev {T : Tbl} {X : Cx} {n : Nat} {ck : Expr → CE → Bool} (ih : ∀ e c, ck e c = true → PE X e (tV T X.K n c)) : ∀ (es : List Expr) (cs : List CE), chkL ck es cs = true → PA X es (tVs T X.K n cs)
  | [], [], _ => pa_nil.imp fun σ H Q h => by
    obtain ⟨R, a, env, S, xs, S', A, e, q⟩ := h
    simp only [evL, Option.some.injEq, Prod.mk.injEq] at e
    obtain ⟨rfl, rfl⟩ := e
    exact q [] H Keep.refl A.sr .nil
  | e :: es, c :: cs, h => by
    simp only [chkL, Bool.and_eq_true] at h
    refine (pa_cons (ih e c h.1.2) (pa_ev ih es cs h.2) (star1 h.1.1)).imp fun σ H Q hq => ?_
    obtain ⟨R, a, env, S, xs, S', A, ev, q⟩ := hq
    simp only [evL, Option.bind_eq_some_iff, Option.map_eq_some_iff] at ev
    obtain ⟨⟨x, S1⟩, e1, ⟨ys, S2⟩, e2, e3⟩ := ev
    simp only [Prod.mk.injEq] at e3
    obtain ⟨rfl, rfl⟩ := e3
    exact ⟨R, a, env, S, x, S1, A, e1, fun v H1 k1 s1 r1 => ⟨R, a, env, S1, ys, S2, A.keep k1 s1, e2, fun vs H2 k2 s2 r2 => q _ _ (k1.trans k2) s2 (.cons (r1.keep k2) r2)⟩⟩
  | [], _ :: _, h => by simp [chkL] at h
  | _ :: _, [], h => by simp [chkL] at h
theorem chkL_ne {ck : Expr → CE → Bool} {e : Expr} {es : List Expr} {cs : List CE} (h : chkL ck (e :: es) cs = true) : notStar e = true := by
  cases cs with
  | nil => simp [chkL] at h
  | cons c cs => simp only [chkL, Bool.and_eq_true] at h; exact h.1.1
theorem chkL_plain {ck : Expr → CE → Bool} {env : PySem.Env} {pos : Pos} : ∀ {es : List Expr} {cs : List CE}, chkL ck es cs = true → (backTo pos (starEach es env)).any (·.1) = false
  | [], _, _ => rfl
  | e :: es, [], h => by simp [chkL] at h
  | e :: es, c :: cs, h => by
    simp only [chkL, Bool.and_eq_true] at h
    rw [star1 h.1.1]
    show (false || (backTo pos (starEach es env)).any (·.1)) = false
    rw [Bool.false_or]
    exact chkL_plain h.2
end Ws

/-! WsO: `a or b` where a is no truth value: a itself if it is true. -/
namespace L2
open PySem PySem.Spec PyProof.Rows
theorem pe_orG {X : Cx} {a b : Expr} {rest : List Expr} {pos : Pos} {ta tb : TE} (ha : PE X a ta) (hb : PE X (.BoolOp .Or (b :: rest) pos) tb) :
    PE X (.BoolOp .Or (a :: b :: rest) pos) (fun σ H Q => ta σ H fun x H1 => ∃ k, TruV X.K x H1 k ∧ if k = true then Q x H1 else tb σ H1 Q) := by
  refine ⟨fun pins s σ H Q I h => ?_⟩
  refine BoolOp_or (thn (ha.run pins s σ H _ I h) fun v s1 ⟨x, H1, I1, r1, q1⟩ => ?_)
  obtain ⟨k, tk, q1⟩ := q1
  refine thn (tru_ok pins s1 σ H1 x v (fun d H2 => d = k ∧ H2 = H1) I1 r1 ⟨k, tk, rfl, rfl⟩) fun d s2 ⟨H2, I2, q2⟩ => ?_
  obtain ⟨rfl, rfl⟩ := q2
  cases d with
  | true => exact ⟨x, H2, I2, r1, q1⟩
  | false => exact hb.run pins s2 σ H2 Q I2 q1
end L2

/-! Ws6: an expression is worth what evE says. -/
namespace Ws
open PySem PySem.Spec PyProof.Rows L2

section
variable {T : Tbl} {X : Cx} {n : Nat}
theorem pe_zero {e : Expr} {c : CE} : PE X e (tV T X.K 0 c) := ⟨fun _ _ _ _ _ _ ⟨_, _, _, _, _, _, _, h, _⟩ => by simp [evE] at h⟩
theorem pt_zero {e : Expr} {c : CE} : PT X e (tB T X.K 0 c) := ⟨fun _ _ _ _ _ _ ⟨_, _, _, _, _, _, _, _, h, _⟩ => by simp [evE] at h⟩
theorem ptOf {e : Expr} {c : CE} (h : PE X e (tV T X.K n c)) (he : ∀ whole, isTrue e X.env whole = (do let v ← whole; standAt e.pos; holding [v] (truthy v))) : PT X e (tB T X.K n c) := by
  refine (pt_truth h he).imp fun σ H Q hq => ?_
  obtain ⟨R, a, env, S, x, S', b, A, e1, e2, q⟩ := hq
  exact ⟨R, a, env, S, x, S', A, e1, fun v H' k s r => ⟨b, tru_v r e2, q H' k s⟩⟩
/-- constants -/
theorem pe_const {e : Expr} {c : CE} {v : V} {x : PV} (h : PE X e (tC v)) (he : ∀ env S, evE T (n + 1) c env S = some (x, S)) (r : ∀ {R a H}, Rep X.K R a H v x) : PE X e (tV T X.K (n + 1) c) := by
  refine h.imp fun σ H Q hq => ?_
  obtain ⟨R, a, env, S, y, S', A, e1, q⟩ := hq
  rw [he] at e1
  simp only [Option.some.injEq, Prod.mk.injEq] at e1
  obtain ⟨rfl, rfl⟩ := e1
  exact q v H Keep.refl A.sr (Rep.toE r)
theorem pe_varV {i : Nat} {x : Str} {pos : Pos} (h : PE X (.Name x pos) (tVar i)) : PE X (.Name x pos) (tV T X.K (n + 1) (.var i)) := by
  refine h.imp fun σ H Q hq => ?_
  obtain ⟨R, a, env, S, y, S', A, e1, q⟩ := hq
  simp only [evE] at e1
  split at e1
  · rename_i z hz
    simp only [Option.some.injEq, Prod.mk.injEq] at e1
    obtain ⟨rfl, rfl⟩ := e1
    obtain ⟨v, h1, h2⟩ := A.en.get i _ hz
    exact ⟨v, h1, q v H Keep.refl A.sr h2⟩
  · cases e1
theorem pe_tupV {es : List Expr} {k pos} {l : List CE} (h : PA X es (tVs T X.K n l)) : PE X (.Tuple es k pos) (tV T X.K (n + 1) (.tup l)) := by
  refine (pe_tup h).imp fun σ H Q hq => ?_
  obtain ⟨R, a, env, S, y, S', A, e1, q⟩ := hq
  simp only [evE, Option.bind_eq_some_iff] at e1
  obtain ⟨⟨xs, S1⟩, h1, h2⟩ := e1
  split at h2
  · rename_i hl
    rw [Bool.and_eq_true, decide_eq_true_eq] at hl
    simp only [Option.some.injEq, Prod.mk.injEq] at h2
    obtain ⟨rfl, rfl⟩ := h2
    refine ⟨R, a, env, S, xs, S1, A, h1, fun vs H' k s r => ⟨LIM_le (by rw [r.length]; exact hl.2), ?_⟩⟩
    exact fin_tup (A.fr.keep k) s (r.reps hl.1) fun u H2 k2 s2 r2 => q u H2 (k.trans k2) s2 r2
  · cases h2
theorem pe_lstV {es : List Expr} {pos} {l : List CE} (h : PA X es (tVs T X.K n l)) : PE X (.List es pos) (tV T X.K (n + 1) (.lst l)) := by
  refine (pe_lst h).imp fun σ H Q hq => ?_
  obtain ⟨R, a, env, S, y, S', A, e1, q⟩ := hq
  simp only [evE, Option.bind_eq_some_iff] at e1
  obtain ⟨⟨xs, S1⟩, h1, h2⟩ := e1
  split at h2
  · rename_i hl
    rw [Bool.and_eq_true, decide_eq_true_eq] at hl
    simp only [Option.some.injEq, Prod.mk.injEq] at h2
    obtain ⟨rfl, rfl⟩ := h2
    refine ⟨R, a, env, S, xs, S1, A, h1, fun vs H' k s r => ⟨LIM_le (by rw [r.length]; exact hl.2), ?_⟩⟩
    exact fin_lst (A.fr.keep k) s (r.reps hl.1) fun u H2 k2 s2 r2 => q u H2 (k.trans k2) s2 r2
  · cases h2
variable {x y z : Expr} {a b d : CE} {pos : Pos}
theorem pe_binV {o : BOp} (ha : PE X x (tV T X.K n a)) (hb : PE X y (tV T X.K n b)) : PE X (.BinOp x (opOf o) y pos) (tV T X.K (n + 1) (.bin o a b)) := by
  obtain ⟨op, r, h1, h2, h3⟩ := bin_ok (X := X) o
  have e : op = opOf o := by cases o <;> exact h2
  subst e
  refine (pe_op h1 ha hb).imp fun σ H Q hq => ?_
  obtain ⟨R, ad, env, S, w, S', A, e1, q⟩ := hq
  simp only [evE, Option.bind_eq_some_iff, Option.map_eq_some_iff] at e1
  obtain ⟨⟨v1, S1⟩, e1, ⟨v2, S2⟩, e2, v3, e3, e4⟩ := e1
  simp only [Prod.mk.injEq] at e4
  obtain ⟨rfl, rfl⟩ := e4
  exact ⟨R, ad, env, S, v1, S1, A, e1, fun u H1 k1 s1 r1 => ⟨R, ad, env, S1, v2, S2, A.keep k1 s1, e2, fun u2 H2 k2 s2 r2 =>
    h3 ((A.fr.keep k1).keep k2) s2 (r1.keep k2) r2 e3 fun u3 H3 k3 s3 r3 => q u3 H3 ((k1.trans k2).trans k3) s3 r3⟩⟩
theorem pe_negV (ha : PE X x (tV T X.K n a)) : PE X (.UnaryOp .USub x pos) (tV T X.K (n + 1) (.neg a)) := by
  refine (pe_un un_neg ha).imp fun σ H Q hq => ?_
  obtain ⟨R, ad, env, S, w, S', A, e1, q⟩ := hq
  simp only [evE, Option.bind_eq_some_iff] at e1
  obtain ⟨⟨v1, S1⟩, e1, e2⟩ := e1
  split at e2
  · rename_i i hi
    simp only [Option.some.injEq, Prod.mk.injEq] at e2
    obtain ⟨rfl, rfl⟩ := e2
    have hi : v1 = .int i := hi
    subst hi
    exact ⟨R, ad, env, S, _, S1, A, e1, fun u H1 k1 s1 r1 => ⟨i, r1.int, q _ H1 k1 s1 (Rep.int _).toE⟩⟩
  · cases e2
/-- not, as a test and as a value -/
theorem pt_notV (ha : PT X x (tB T X.K n a)) : PT X (.UnaryOp .Not x pos) (tB T X.K (n + 1) (.not a)) := by
  refine (pt_not ha).imp fun σ H Q hq => ?_
  obtain ⟨R, ad, env, S, w, S', b, A, e1, e2, q⟩ := hq
  simp only [evE, Option.bind_eq_some_iff, Option.map_eq_some_iff] at e1
  obtain ⟨⟨v1, S1⟩, e1, k, h1, h2⟩ := e1
  simp only [Prod.mk.injEq] at h2
  obtain ⟨rfl, rfl⟩ := h2
  simp only [PV.tru, Option.some.injEq] at e2
  subst e2
  exact ⟨R, ad, env, S, v1, S1, k, A, e1, h1, q⟩
theorem pe_notV (ha : PE X x (tV T X.K n a)) : PE X (.UnaryOp .Not x pos) (tV T X.K (n + 1) (.not a)) := by
  refine (pe_notT ha).imp fun σ H Q hq => ?_
  obtain ⟨R, ad, env, S, w, S', A, e1, q⟩ := hq
  simp only [evE, Option.bind_eq_some_iff, Option.map_eq_some_iff] at e1
  obtain ⟨⟨v1, S1⟩, e1, k, h1, h2⟩ := e1
  simp only [Prod.mk.injEq] at h2
  obtain ⟨rfl, rfl⟩ := h2
  exact ⟨R, ad, env, S, v1, S1, A, e1, fun u H1 k1 s1 r1 => ⟨k, tru_v r1 h1, q _ H1 k1 s1 (Rep.bl _).toE⟩⟩

theorem pwOf {op : BoolOp} {vs : List Expr} {t : TT} (h : PT X (.BoolOp op vs pos) t) : PW X (.BoolOp op vs pos) t := ⟨fun w pins s σ H Q I q => by
  have e : isTrue (.BoolOp op vs pos) X.env w = isTrue (.BoolOp op vs pos) X.env (eval (.BoolOp op vs pos) X.env) := by
    first | rfl | simp only [isTrue]
  rw [e]
  exact h.run pins s σ H Q I q⟩
theorem pe_andV {r : List Expr} (ha : PE X x (tV T X.K n a)) (hb : PE X (.BoolOp .And (y :: r) pos) (tV T X.K n b)) : PE X (.BoolOp .And (x :: y :: r) pos) (tV T X.K (n + 1) (.and a b)) := by
  refine (pe_and ha hb).imp fun σ H Q hq => ?_
  obtain ⟨R, ad, env, S, w, S', A, e1, q⟩ := hq
  simp only [evE, Option.bind_eq_some_iff] at e1
  obtain ⟨⟨v1, S1⟩, e1, e2⟩ := e1
  refine ⟨R, ad, env, S, v1, S1, A, e1, fun u H1 k1 s1 r1 => ?_⟩
  split at e2
  · rename_i hv
    have hv : v1 = .bl true := hv
    subst hv
    refine ⟨true, r1.bl, ?_⟩
    rw [if_pos rfl]
    exact ⟨R, ad, env, S1, w, S', A.keep k1 s1, e2, fun u2 H2 k2 s2 r2 => q u2 H2 (k1.trans k2) s2 r2⟩
  · rename_i hv
    have hv : v1 = .bl false := hv
    subst hv
    refine ⟨false, r1.bl, ?_⟩
    simp only [Option.some.injEq, Prod.mk.injEq] at e2
    obtain ⟨rfl, rfl⟩ := e2
    rw [if_neg (by decide)]
    exact q _ H1 k1 s1 (Rep.bl _).toE
  · cases e2
theorem pe_orV {r : List Expr} (ha : PE X x (tV T X.K n a)) (hb : PE X (.BoolOp .Or (y :: r) pos) (tV T X.K n b)) : PE X (.BoolOp .Or (x :: y :: r) pos) (tV T X.K (n + 1) (.or a b)) := by
  refine (pe_orG ha hb).imp fun σ H Q hq => ?_
  obtain ⟨R, ad, env, S, w, S', A, e1, q⟩ := hq
  simp only [evE, Option.bind_eq_some_iff] at e1
  obtain ⟨⟨v1, S1⟩, e1, e2⟩ := e1
  refine ⟨R, ad, env, S, v1, S1, A, e1, fun u H1 k1 s1 r1 => ?_⟩
  split at e2
  · rename_i hv
    have hv : v1 = .bl true := hv
    subst hv
    refine ⟨true, tru_v r1 rfl, ?_⟩
    simp only [Option.some.injEq, Prod.mk.injEq] at e2
    obtain ⟨rfl, rfl⟩ := e2
    rw [if_pos rfl]
    exact q _ H1 k1 s1 r1
  · rename_i hv
    have hv : v1 = .bl false := hv
    subst hv
    refine ⟨false, tru_v r1 rfl, ?_⟩
    rw [if_neg (by decide)]
    exact ⟨R, ad, env, S1, w, S', A.keep k1 s1, e2, fun u2 H2 k2 s2 r2 => q u2 H2 (k1.trans k2) s2 r2⟩
  · rename_i l hv
    have hv : v1 = .lst l := hv
    subst hv
    refine ⟨!l.isEmpty, tru_v r1 rfl, ?_⟩
    cases he : l.isEmpty with
    | true =>
      rw [he, if_pos rfl] at e2
      rw [Bool.not_true, if_neg (by decide)]
      exact ⟨R, ad, env, S1, w, S', A.keep k1 s1, e2, fun u2 H2 k2 s2 r2 => q u2 H2 (k1.trans k2) s2 r2⟩
    | false =>
      rw [he, if_neg Bool.false_ne_true] at e2
      simp only [Option.some.injEq, Prod.mk.injEq] at e2
      obtain ⟨rfl, rfl⟩ := e2
      rw [Bool.not_false, if_pos rfl]
      exact q _ H1 k1 s1 r1
  · cases e2
theorem pt_andV {r : List Expr} (ha : PT X x (tB T X.K n a)) (hb : PT X (.BoolOp .And (y :: r) pos) (tB T X.K n b)) : PT X (.BoolOp .And (x :: y :: r) pos) (tB T X.K (n + 1) (.and a b)) := by
  refine (pw_and ha (pwOf hb)).pt.imp fun σ H Q hq => ?_
  obtain ⟨R, ad, env, S, w, S', c, A, e1, ec, q⟩ := hq
  simp only [evE, Option.bind_eq_some_iff] at e1
  obtain ⟨⟨v1, S1⟩, e1, e2⟩ := e1
  split at e2
  · rename_i hv
    have hv : v1 = .bl true := hv
    subst hv
    refine ⟨R, ad, env, S, _, S1, true, A, e1, rfl, fun H1 k1 s1 => ?_⟩
    refine iteT ?_
    exact ⟨R, ad, env, S1, w, S', c, A.keep k1 s1, e2, ec, fun H2 k2 s2 => q H2 (k1.trans k2) s2⟩
  · rename_i hv
    have hv : v1 = .bl false := hv
    subst hv
    simp only [Option.some.injEq, Prod.mk.injEq] at e2
    obtain ⟨rfl, rfl⟩ := e2
    simp only [PV.tru, Option.some.injEq] at ec
    subst ec
    refine ⟨R, ad, env, S, _, S1, false, A, e1, rfl, fun H1 k1 s1 => ?_⟩
    refine iteF ?_
    exact q H1 k1 s1
  · cases e2
theorem pt_orV {r : List Expr} (ha : PT X x (tB T X.K n a)) (hb : PT X (.BoolOp .Or (y :: r) pos) (tB T X.K n b)) : PT X (.BoolOp .Or (x :: y :: r) pos) (tB T X.K (n + 1) (.or a b)) := by
  refine (pw_or ha (pwOf hb)).pt.imp fun σ H Q hq => ?_
  obtain ⟨R, ad, env, S, w, S', c, A, e1, ec, q⟩ := hq
  simp only [evE, Option.bind_eq_some_iff] at e1
  obtain ⟨⟨v1, S1⟩, e1, e2⟩ := e1
  split at e2
  · rename_i hv
    have hv : v1 = .bl true := hv
    subst hv
    simp only [Option.some.injEq, Prod.mk.injEq] at e2
    obtain ⟨rfl, rfl⟩ := e2
    simp only [PV.tru, Option.some.injEq] at ec
    subst ec
    refine ⟨R, ad, env, S, _, S1, true, A, e1, rfl, fun H1 k1 s1 => ?_⟩
    refine iteT ?_
    exact q H1 k1 s1
  · rename_i hv
    have hv : v1 = .bl false := hv
    subst hv
    refine ⟨R, ad, env, S, _, S1, false, A, e1, rfl, fun H1 k1 s1 => ?_⟩
    refine iteF ?_
    exact ⟨R, ad, env, S1, w, S', c, A.keep k1 s1, e2, ec, fun H2 k2 s2 => q H2 (k1.trans k2) s2⟩
  · rename_i l hv
    have hv : v1 = .lst l := hv
    subst hv
    cases he : l.isEmpty with
    | true =>
      rw [he, if_pos rfl] at e2
      refine ⟨R, ad, env, S, _, S1, false, A, e1, by rw [PV.tru, he]; rfl, fun H1 k1 s1 => ?_⟩
      refine iteF ?_
      exact ⟨R, ad, env, S1, w, S', c, A.keep k1 s1, e2, ec, fun H2 k2 s2 => q H2 (k1.trans k2) s2⟩
    | false =>
      rw [he, if_neg Bool.false_ne_true] at e2
      simp only [Option.some.injEq, Prod.mk.injEq] at e2
      obtain ⟨rfl, rfl⟩ := e2
      rw [PV.tru, he] at ec
      simp only [Bool.not_false, Option.some.injEq] at ec
      subst ec
      refine ⟨R, ad, env, S, _, S1, true, A, e1, by rw [PV.tru, he]; rfl, fun H1 k1 s1 => ?_⟩
      refine iteT ?_
      exact q H1 k1 s1
  · cases e2
/-- comparisons -/
theorem pe_cmpV {o : COp} (hr : Room 0 X.A) (ha : PE X x (tV T X.K n a)) (hb : PE X y (tV T X.K n b)) (hm : behindInMarks (cOp o) y = false) :
    PE X (.Compare x [cOp o] [y] pos) (tV T X.K (n + 1) (.cmp o a b)) ∧ PT X (.Compare x [cOp o] [y] pos) (tB T X.K (n + 1) (.cmp o a b)) := by
  obtain ⟨r, h1, h3⟩ := cmp_ok (X := X) hr o
  refine ⟨(pe_cmpR h1 ha hb hm).imp fun σ H Q hq => ?_, (pt_cmpR h1 ha hb hm).imp fun σ H Q hq => ?_⟩
  · obtain ⟨R, ad, env, S, w, S', A, e1, q⟩ := hq
    simp only [evE, Option.bind_eq_some_iff, Option.map_eq_some_iff] at e1
    obtain ⟨⟨v1, S1⟩, e1, ⟨v2, S2⟩, e2, v3, e3, e4⟩ := e1
    simp only [Prod.mk.injEq] at e4
    obtain ⟨rfl, rfl⟩ := e4
    exact ⟨R, ad, env, S, v1, S1, A, e1, fun u H1 k1 s1 r1 => ⟨R, ad, env, S1, v2, S2, A.keep k1 s1, e2, fun u2 H2 k2 s2 r2 =>
      h3 s2 (r1.keep k2) r2 e3 (q _ H2 (k1.trans k2) s2 (Rep.bl _).toE)⟩⟩
  · obtain ⟨R, ad, env, S, w, S', c, A, e1, ec, q⟩ := hq
    simp only [evE, Option.bind_eq_some_iff, Option.map_eq_some_iff] at e1
    obtain ⟨⟨v1, S1⟩, e1, ⟨v2, S2⟩, e2, v3, e3, e4⟩ := e1
    simp only [Prod.mk.injEq] at e4
    obtain ⟨rfl, rfl⟩ := e4
    simp only [PV.tru, Option.some.injEq] at ec
    subst ec
    exact ⟨R, ad, env, S, v1, S1, A, e1, fun u H1 k1 s1 r1 => ⟨R, ad, env, S1, v2, S2, A.keep k1 s1, e2, fun u2 H2 k2 s2 r2 =>
      h3 s2 (r1.keep k2) r2 e3 ⟨v3, rfl, q H2 (k1.trans k2) s2⟩⟩⟩
theorem pe_chainV {o o' : COp} (hr : Room 0 X.A) (ha : PE X x (tV T X.K n a)) (hb : PE X y (tV T X.K n b)) (hc : PE X z (tV T X.K n d)) (hm : lastMarks [cOp o, cOp o'] [y, z] = false) :
    PE X (.Compare x [cOp o, cOp o'] [y, z] pos) (tV T X.K (n + 1) (.chain o o' a b d)) ∧ PT X (.Compare x [cOp o, cOp o'] [y, z] pos) (tB T X.K (n + 1) (.chain o o' a b d)) := by
  obtain ⟨r, h1, h3⟩ := cmp_ok (X := X) hr o
  obtain ⟨r', h1', h3'⟩ := cmp_ok (X := X) hr o'
  refine ⟨(pe_chain h1 h1' ha hb hc hm).imp fun σ H Q hq => ?_, (pt_chain h1 h1' ha hb hc hm).imp fun σ H Q hq => ?_⟩
  · obtain ⟨R, ad, env, S, w, S', A, e1, q⟩ := hq
    simp only [evE, Option.bind_eq_some_iff] at e1
    obtain ⟨⟨v1, S1⟩, e1, ⟨v2, S2⟩, e2, v3, e3, e4⟩ := e1
    refine ⟨R, ad, env, S, v1, S1, A, e1, fun u H1 k1 s1 r1 => ⟨R, ad, env, S1, v2, S2, A.keep k1 s1, e2, fun u2 H2 k2 s2 r2 => h3 s2 (r1.keep k2) r2 e3 ⟨v3, rfl, ?_⟩⟩⟩
    cases v3 with
    | true =>
      rw [if_pos rfl] at e4 ⊢
      simp only [Option.bind_eq_some_iff, Option.map_eq_some_iff] at e4
      obtain ⟨⟨v4, S3⟩, e5, k, e6, e7⟩ := e4
      simp only [Prod.mk.injEq] at e7
      obtain ⟨rfl, rfl⟩ := e7
      exact ⟨R, ad, env, S2, v4, S3, (A.keep k1 s1).keep k2 s2, e5, fun u3 H3 k3 s3 r3 => h3' s3 (r2.keep k3) r3 e6 (q _ H3 ((k1.trans k2).trans k3) s3 (Rep.bl _).toE)⟩
    | false =>
      rw [if_neg (by decide)] at e4 ⊢
      simp only [Option.some.injEq, Prod.mk.injEq] at e4
      obtain ⟨rfl, rfl⟩ := e4
      exact q _ H2 (k1.trans k2) s2 (Rep.bl _).toE
  · obtain ⟨R, ad, env, S, w, S', c, A, e1, ec, q⟩ := hq
    simp only [evE, Option.bind_eq_some_iff] at e1
    obtain ⟨⟨v1, S1⟩, e1, ⟨v2, S2⟩, e2, v3, e3, e4⟩ := e1
    refine ⟨R, ad, env, S, v1, S1, A, e1, fun u H1 k1 s1 r1 => ⟨R, ad, env, S1, v2, S2, A.keep k1 s1, e2, fun u2 H2 k2 s2 r2 => h3 s2 (r1.keep k2) r2 e3 ⟨v3, rfl, ?_⟩⟩⟩
    cases v3 with
    | true =>
      rw [if_pos rfl] at e4 ⊢
      simp only [Option.bind_eq_some_iff, Option.map_eq_some_iff] at e4
      obtain ⟨⟨v4, S3⟩, e5, k, e6, e7⟩ := e4
      simp only [Prod.mk.injEq] at e7
      obtain ⟨rfl, rfl⟩ := e7
      simp only [PV.tru, Option.some.injEq] at ec
      subst ec
      exact ⟨R, ad, env, S2, v4, S3, (A.keep k1 s1).keep k2 s2, e5, fun u3 H3 k3 s3 r3 => h3' s3 (r2.keep k3) r3 e6 ⟨k, rfl, q H3 ((k1.trans k2).trans k3) s3⟩⟩
    | false =>
      rw [if_neg (by decide)] at e4 ⊢
      simp only [Option.some.injEq, Prod.mk.injEq] at e4
      obtain ⟨rfl, rfl⟩ := e4
      simp only [PV.tru, Option.some.injEq] at ec
      subst ec
      exact ⟨false, rfl, q H2 (k1.trans k2) s2⟩
/-- x if t else y -/
theorem pe_iteV (hd : PT X z (tB T X.K n d)) (ha : PE X x (tV T X.K n a)) (hb : PE X y (tV T X.K n b)) : PE X (.IfExp z x y pos) (tV T X.K (n + 1) (.ite d a b)) := by
  refine (pe_ifExp hd ha hb).imp fun σ H Q hq => ?_
  obtain ⟨R, ad, env, S, w, S', A, e1, q⟩ := hq
  simp only [evE, Option.bind_eq_some_iff] at e1
  obtain ⟨⟨v1, S1⟩, e1, k, e2, e3⟩ := e1
  refine ⟨R, ad, env, S, v1, S1, k, A, e1, e2, fun H1 k1 s1 => ?_⟩
  cases k with
  | true =>
    rw [if_pos rfl] at e3
    refine iteT ?_
    exact ⟨R, ad, env, S1, w, S', A.keep k1 s1, e3, fun u2 H2 k2 s2 r2 => q u2 H2 (k1.trans k2) s2 r2⟩
  | false =>
    rw [if_neg (by decide)] at e3
    refine iteF ?_
    exact ⟨R, ad, env, S1, w, S', A.keep k1 s1, e3, fun u2 H2 k2 s2 r2 => q u2 H2 (k1.trans k2) s2 r2⟩
theorem pt_ifExp {tc ta tb : TT} (hc : PT X z tc) (ha : PT X x ta) (hb : PT X y tb) : PT X (.IfExp z x y pos) (fun σ H Q => tc σ H fun k H1 => if k = true then ta σ H1 Q else tb σ H1 Q) := by
  refine ⟨fun pins s σ H Q I h => ?_⟩
  have e : isTrue (.IfExp z x y pos) X.env (eval (.IfExp z x y pos) X.env) = (do if ← isTrue z X.env (eval z X.env) then isTrue x X.env (eval x X.env) else isTrue y X.env (eval y X.env)) := by
    first | rfl | simp only [isTrue]
  rw [e]
  refine wpAny_bind (thn (hc.run pins s σ H _ I h) fun d s1 ⟨H1, I1, q1⟩ => ?_)
  cases d with
  | true =>
    rw [if_pos rfl] at q1 ⊢
    exact ha.run pins s1 σ H1 Q I1 q1
  | false =>
    rw [if_neg (by decide)] at q1 ⊢
    exact hb.run pins s1 σ H1 Q I1 q1
theorem pt_iteV (hd : PT X z (tB T X.K n d)) (ha : PT X x (tB T X.K n a)) (hb : PT X y (tB T X.K n b)) : PT X (.IfExp z x y pos) (tB T X.K (n + 1) (.ite d a b)) := by
  refine (pt_ifExp hd ha hb).imp fun σ H Q hq => ?_
  obtain ⟨R, ad, env, S, w, S', c, A, e1, ec, q⟩ := hq
  simp only [evE, Option.bind_eq_some_iff] at e1
  obtain ⟨⟨v1, S1⟩, e1, k, e2, e3⟩ := e1
  refine ⟨R, ad, env, S, v1, S1, k, A, e1, e2, fun H1 k1 s1 => ?_⟩
  cases k with
  | true =>
    rw [if_pos rfl] at e3
    refine iteT ?_
    exact ⟨R, ad, env, S1, w, S', c, A.keep k1 s1, e3, ec, fun H2 k2 s2 => q H2 (k1.trans k2) s2⟩
  | false =>
    rw [if_neg (by decide)] at e3
    refine iteF ?_
    exact ⟨R, ad, env, S1, w, S', c, A.keep k1 s1, e3, ec, fun H2 k2 s2 => q H2 (k1.trans k2) s2⟩
end
end Ws

/-! Ws7: indexes, slices, calls. -/
namespace Ws
open PySem PySem.Spec PyProof.Rows L2

section
variable {T : Tbl} {X : Cx} {n : Nat} {x y z : Expr} {a b d : CE} {pos : Pos}
theorem Reps.at {K : PySem.W.Frag} {R : Addr → Prop} {a : Addr} {H : Hp} {vs : List V} {xs : List PV} {i : Int} {x : PV} (r : Reps K R a H vs xs) (h : atI xs i = some x) : ∃ v, atI vs i = some v ∧ Rep K R a H v x := by
  unfold atI at h ⊢
  rw [r.length]
  cases e : ixN xs.length i with
  | none => rw [e] at h; cases h
  | some j =>
    rw [e] at h
    exact r.get h
def notSlice : Expr → Bool
  | .Slice _ _ _ _ => false
  | _ => true
theorem plainIx {y : Expr} (h : notSlice y = true) : PlainIx y := by
  intro o i
  cases y <;> first | rfl | (simp [notSlice] at h)
theorem pe_idxV (ha : PE X x (tV T X.K n a)) (hb : PE X y (tV T X.K n b)) (hs : notSlice y = true) : PE X (.Subscript x y pos) (tV T X.K (n + 1) (.idx a b)) := by
  refine (pe_ix (r := fun x y H Q => rIxL X.K x y H Q ∨ rIxT X.K x y H Q) (ix_list.or ix_tup) ha hb (plainIx hs)).imp fun σ H Q hq => ?_
  obtain ⟨R, ad, env, S, w, S', A, e1, q⟩ := hq
  simp only [evE, Option.bind_eq_some_iff, Option.map_eq_some_iff] at e1
  obtain ⟨⟨v1, S1⟩, e1, ⟨v2, S2⟩, e2, v3, e3, e4⟩ := e1
  simp only [Prod.mk.injEq] at e4
  obtain ⟨rfl, rfl⟩ := e4
  refine ⟨R, ad, env, S, v1, S1, A, e1, fun u H1 k1 s1 r1 => ⟨R, ad, env, S1, v2, S2, A.keep k1 s1, e2, fun u2 H2 k2 s2 r2 => ?_⟩⟩
  by_cases hst : v1 = .stm
  · subst hst
    have e3 : stmV S2 v2 = some v3 := e3
    have ru : u = .ref ad := by cases (show Rep _ _ _ _ _ _ from r1); rfl
    subst ru
    unfold stmV at e3
    split at e3
    · simp only [Option.some.injEq] at e3
      subst e3
      obtain ⟨p, g1, g2, g3, g4⟩ := s2
      exact .inl ⟨ad, _, 0, .ref p, rfl, r2.int, SqL.of g1, rfl, q _ H2 (k1.trans k2) ⟨p, g1, g2, g3, g4⟩ (Rep.toE (.lst g2 g3 g4 (Reps.ofInts _)))⟩
    · simp only [Option.some.injEq] at e3
      subst e3
      obtain ⟨p, g1, g2, g3, g4⟩ := s2
      exact .inl ⟨ad, _, 1, .int _, rfl, r2.int, SqL.of g1, rfl, q _ H2 (k1.trans k2) ⟨p, g1, g2, g3, g4⟩ (Rep.toE (.int _))⟩
    · simp only [Option.some.injEq] at e3
      subst e3
      obtain ⟨p, g1, g2, g3, g4⟩ := s2
      exact .inl ⟨ad, _, 2, .int _, rfl, r2.int, SqL.of g1, rfl, q _ H2 (k1.trans k2) ⟨p, g1, g2, g3, g4⟩ (Rep.toE (.int _))⟩
    · cases e3
  replace e3 : idxV v1 v2 = some v3 := by cases v1 <;> first | exact absurd rfl hst | exact e3
  unfold idxV at e3
  split at e3
  · rename_i l i hl
    obtain ⟨p, vs, rfl, hp, rs⟩ := (r1.keep k2).seq hl
    obtain ⟨v, hv, rv⟩ := rs.at e3
    have fin := q v H2 (k1.trans k2) s2 rv.toE
    rcases hp with hp | hp
    · exact .inl ⟨p, vs, i, v, rfl, r2.int, SqL.of hp, hv, fin⟩
    · exact .inr ⟨p, vs, i, v, rfl, r2.int, SqT.of hp, hv, fin⟩
  · cases e3
def tPr (T : Tbl) (K : PySem.W.Frag) (n : Nat) (c : Option CE) : TO := fun σ H Q => ∃ R a env S x S', At K σ H R a env S ∧ parV (fun e S => evE T n e env S) c S = some (x, S') ∧ ∀ H', Keep a H H' → SRel K R a H' S' → Q x H'
theorem PO.imp {X : Cx} {e : Option Expr} {t t' : TO} (h : PO X e t) (m : ∀ σ H Q, t' σ H Q → t σ H Q) : PO X e t' := ⟨fun pins s σ H Q I q => h.run pins s σ H Q I (m σ H Q q)⟩
theorem po_ev {ck : Expr → CE → Bool} (ih : ∀ e c, ck e c = true → PE X e (tV T X.K n c)) : ∀ (e : Option Expr) (c : Option CE), chkO ck e c = true → PO X e (tPr T X.K n c)
  | none, none, _ => PO.imp po_none fun σ H Q h => by
    obtain ⟨R, a, env, S, xs, S', A, e, q⟩ := h
    simp only [parV, Option.some.injEq, Prod.mk.injEq] at e
    obtain ⟨rfl, rfl⟩ := e
    exact q H Keep.refl A.sr
  | some e, some c, h => PO.imp (po_some (ih e c h)) fun σ H Q h => by
    obtain ⟨R, a, env, S, xs, S', A, e, q⟩ := h
    simp only [parV, Option.bind_eq_some_iff] at e
    obtain ⟨⟨v1, S1⟩, e1, e2⟩ := e
    split at e2
    · rename_i i hi
      have hi : v1 = .int i := hi
      subst hi
      simp only [Option.some.injEq, Prod.mk.injEq] at e2
      obtain ⟨rfl, rfl⟩ := e2
      exact ⟨R, a, env, S, _, S1, A, e1, fun u H1 k1 s1 r1 => ⟨i, r1.int, q H1 k1 s1⟩⟩
    · cases e2
  | none, some _, h => by simp [chkO] at h
  | some _, none, h => by simp [chkO] at h
theorem Reps.cut {K : PySem.W.Frag} {R : Addr → Prop} {a : Addr} {H : Hp} {vs : List V} {xs : List PV} (r : Reps K R a H vs xs) (lo hi : Option Int) : Reps K R a H (cutV vs lo hi) (cutP xs lo hi) := by
  unfold cutV cutP
  rw [r.length]
  exact (r.drop _).take _
theorem cutP_whole {xs : List PV} {lo hi : Option Int} (h1 : HT.sIx xs.length 0 lo = 0) (h2 : HT.sIx xs.length xs.length hi = xs.length) : cutP xs lo hi = xs := by
  unfold cutP
  rw [h1, h2]
  simp
theorem pe_sliV {lo hi : Option Expr} {l h : Option CE} {p2 : Pos} (ha : PE X x (tV T X.K n a)) (hl : PO X lo (tPr T X.K n l)) (hh : PO X hi (tPr T X.K n h)) : PE X (.Subscript x (.Slice lo hi none p2) pos) (tV T X.K (n + 1) (.sli a l h)) := by
  refine (pe_slice (SlR.or sl_list sl_tupA) ha hl hh).imp fun σ H Q hq => ?_
  obtain ⟨R, ad, env, S, w, S', A, e1, q⟩ := hq
  simp only [evE, Option.bind_eq_some_iff, Option.map_eq_some_iff] at e1
  obtain ⟨⟨v1, S1⟩, e1, ⟨i, S2⟩, e2, ⟨j, S3⟩, e3, v3, e4, e5⟩ := e1
  simp only [Prod.mk.injEq] at e5
  obtain ⟨rfl, rfl⟩ := e5
  refine ⟨R, ad, env, S, v1, S1, A, e1, fun u H1 k1 s1 r1 => ⟨R, ad, env, S1, i, S2, A.keep k1 s1, e2, fun H2 k2 s2 => ⟨R, ad, env, S2, j, S3, (A.keep k1 s1).keep k2 s2, e3, fun H3 k3 s3 => ?_⟩⟩⟩
  have r3 := (r1.keep k2).keep k3
  have f3 := ((A.fr.keep k1).keep k2).keep k3
  have k := (k1.trans k2).trans k3
  unfold sliV at e4
  cases v1 with
  | tup m =>
    simp only [Option.some.injEq] at e4
    subst e4
    have r4 := r3
    obtain ⟨p, vs, rfl, hp, np, rs⟩ := r3.tup
    refine .inr ⟨p, vs, rfl, SqT.of hp, fun hw => ?_, fun _ => fin_tup f3 s3 (rs.cut i j) fun u4 H4 k4 s4 r4 => q u4 H4 (k.trans k4) s4 r4⟩
    rw [rs.length] at hw
    rw [cutP_whole hw.1 hw.2] at q
    exact q _ H3 k s3 r4
  | lst m =>
    simp only [Option.some.injEq] at e4
    subst e4
    obtain ⟨p, vs, rfl, hp, rs⟩ := r3.lst (l := m) rfl
    exact .inl ⟨p, vs, rfl, SqL.of hp, fin_lst f3 s3 (rs.cut i j) fun u4 H4 k4 s4 r4 => q u4 H4 (k.trans k4) s4 r4⟩
  | own m =>
    simp only [Option.some.injEq] at e4
    subst e4
    obtain ⟨p, vs, rfl, hp, rs⟩ := r3.lst (l := m) rfl
    exact .inl ⟨p, vs, rfl, SqL.of hp, fin_lst f3 s3 (rs.cut i j) fun u4 H4 k4 s4 r4 => q u4 H4 (k.trans k4) s4 r4⟩
  | _ => cases e4
/-- a built-in's call -/
theorem pe_biV {b : Bi} {es : List Expr} {l : List CE} {p : Pos} {ck : Expr → CE → Bool} (hr : Room 0 X.A) (hc : X.calm = true) (hg : Gl X (biName b)) (hm : X.mg (biName b) = none) (ha : PA X (y :: es) (tVs T X.K n l)) (ck1 : notStar y = true) (ck2 : (backTo pos (starEach es X.env)).any (·.1) = false) :
    PE X (.Call (.Name (biName b) p) (y :: es) [] pos) (tV T X.K (n + 1) (.bi b l)) := by
  obtain ⟨r, h1, h2⟩ := bi_ok (X := X) hr hc b
  have key : PE X (.Call (.Name (biName b) p) (y :: es) [] pos) (tCB r (tVs T X.K n l)) := by
    have hv := biBoot b
    cases b <;> first
      | exact pe_callB h1 hg hm hv ha (biN _) (biD _) (star1 ck1) ck2
      | exact pe_callTy h1 hg hm hv ha (biN _) (biD _) (star1 ck1) ck2
  refine key.imp fun σ H Q hq => ?_
  obtain ⟨R, ad, env, S, w, S', A, e1, q⟩ := hq
  simp only [evE, Option.bind_eq_some_iff, Option.map_eq_some_iff] at e1
  obtain ⟨⟨xs, S1⟩, e1, v, e2, e3⟩ := e1
  simp only [Prod.mk.injEq] at e3
  obtain ⟨rfl, rfl⟩ := e3
  exact ⟨R, ad, env, S, xs, S1, A, e1, fun vs H1 k1 s1 r1 => h2 (A.fr.keep k1) s1 r1 e2 fun u H2 k2 s2 r2 => q u H2 (k1.trans k2) s2 r2⟩
theorem RepsE.thaw {K : PySem.W.Frag} {R : Addr → Prop} {a : Addr} {H : Hp} (f : Fresh R a H) : ∀ {vs : List V} {xs : List PV}, RepsE K R a H vs xs → Reps K (fun b => b ≠ a) a H vs (xs.map PV.thaw)
  | _, _, .nil => .nil
  | _, _, .cons (x := x) r t => by
    refine .cons ?_ (RepsE.thaw f t)
    cases x with
    | own l =>
      obtain ⟨p, ws, rfl, h, np, q⟩ := r
      exact .lst h np np (q.mono f.le Keep.refl)
    | _ => exact Rep.mono f.le Keep.refl r
theorem thaw_id : ∀ {xs : List PV}, xs.all (fun x => !x.isOwn) = true → xs.map PV.thaw = xs
  | [], _ => rfl
  | x :: xs, h => by
    rw [List.all_cons, Bool.and_eq_true] at h
    rw [List.map_cons, thaw_id h.2]
    cases x <;> first | rfl | (simp [PV.isOwn] at h)
/-- a def's call -/
theorem pe_callV {f : Str} {φ : Nat × Fn} {es : List Expr} {l : List CE} {p : Pos} (hT : T.fn f = some φ) (F : FnT X f φ) (hg : Gl X f) (hd : (f == ("__debug__" : Str)) = false) (ha : PA X (y :: es) (tVs T X.K n l)) (ck1 : notStar y = true) (ck2 : (backTo pos (starEach es X.env)).any (·.1) = false) :
    PE X (.Call (.Name f p) (y :: es) [] pos) (tV T X.K (n + 1) (.call f l)) := by
  obtain ⟨pa, fd, ps, k, cx, h0, h1, h2, h3, h4, h5, h6⟩ := F.ex
  refine (pe_call (dvs := []) h4 h5 hg h1 h2 h3 .nil (h6 X rfl rfl) ha hd (star1 ck1) ck2).imp fun σ H Q hq => ?_
  obtain ⟨R, ad, env, S, w, S', A, e1, q⟩ := hq
  simp only [evE, Option.bind_eq_some_iff] at e1
  obtain ⟨φ', hφ, ⟨xs, S1⟩, e1, e2⟩ := e1
  rw [hT] at hφ
  cases hφ
  split at e2
  case isFalse => cases e2
  rename_i hl
  simp only [Option.bind_eq_some_iff] at e2
  obtain ⟨⟨o, S2⟩, e2, e3⟩ := e2
  cases o with
  | exc c ys => cases e3
  | ret x =>
    dsimp only at e3
    split at e3
    · rename_i hx
      simp only [Option.some.injEq, Prod.mk.injEq] at e3
      obtain ⟨rfl, rfl⟩ := e3
      refine ⟨R, ad, env, S, xs, S1, A, e1, fun vs H1 k1 s1 r1 => ?_⟩
      show spF X.K φ.1 φ.2 (vs ++ []) H1 Q E0
      rw [List.append_nil]
      rw [Bool.or_eq_true] at hx
      rcases hx with hx | hx
      · rw [thaw_id hx] at e2
        exact ⟨R, ad, xs, S1, .ret x, S2, A.fr.keep k1, r1.reps hx, s1, hl, e2, fun v H2 k2 s2 r2 => q v H2 (k1.trans k2) s2 r2.toE⟩
      · rw [Bool.and_eq_true] at hx
        refine ⟨_, ad, xs.map PV.thaw, S1, .ret x, S2, (A.fr.keep k1).any, r1.thaw (A.fr.keep k1), s1.mono (A.fr.le), by rw [List.length_map]; exact hl, e2, fun v H2 k2 s2 r2 => q v H2 (k1.trans k2) (s1.back k2 s2 hx.2) (r2.flat hx.1).toE⟩
    · cases e3
end
end Ws

/-! Cb0: itertools.combinations(xs, r), at the library's level. -/
namespace Cb
open PySem PySem.Spec
open Sem (wp)

theorem mro_cb : mroOf (.type "itertools.combinations") = pure [.type "itertools.combinations", .type "object"] := by rw [mroOf_type]; kernel_rfl
theorem lookup_cb_new : typeLookup (.type "itertools.combinations") "__new__" = pure (some (.builtin "itertools.combinations.__new__")) := by rw [typeLookup_type, builtinLookup_eq_fast]; kernel_rfl
theorem slot_cb_init : Slot "itertools.combinations" "__init__" "object.__init__" :=
  .of (owner := "object") (n := "__init__") (by rw [typeLookup_type, builtinLookup_eq_fast]; kernel_rfl) (by decide +kernel) (by decide +kernel) (by decide +kernel)
    (by first | exact .inl (by decide +kernel) | exact .inr (by decide +kernel)) (by rw [isSubtype_type]; kernel_rfl)
theorem sub_cb : isSubtype (.type "itertools.combinations") (.type "itertools.combinations") = pure true := by rw [isSubtype_type]; kernel_rfl
theorem called_cb : TypeCalled "itertools.combinations" "itertools.combinations.__new__" "object.__init__" :=
  ⟨by decide +kernel, by decide +kernel, ⟨_, _, mro_cb⟩, madeBy_type mro_cb lookup_cb_new (by decide +kernel), by decide +kernel, sub_cb, slot_cb_init⟩
theorem typeCall_cb_2 (a b : Value) : checkTypeCall "itertools.combinations" ⟨[a, b], []⟩ = pure () := by kernel_rfl
theorem newCall_cb_2 (a b : Value) : checkBuiltinCall "itertools.combinations.__new__" ⟨[.type "itertools.combinations", a, b], []⟩ = pure () := by kernel_rfl
theorem entry_cb_new : entryFor table "itertools.combinations.__new__" = some Builtin.«itertools.combinations.__new__» := entryFor_of_tree (by kernel_rfl)
theorem slot_cb_iter : Slot "itertools.combinations" "__iter__" "itertools.combinations.__iter__" :=
  .of (owner := "itertools.combinations") (n := "__iter__") (by rw [typeLookup_type, builtinLookup_eq_fast]; kernel_rfl) (by decide +kernel) (by decide +kernel) (by decide +kernel)
    (by first | exact .inl (by decide +kernel) | exact .inr (by decide +kernel)) sub_cb
theorem slot_cb_next : Slot "itertools.combinations" "__next__" "itertools.combinations.__next__" :=
  .of (owner := "itertools.combinations") (n := "__next__") (by rw [typeLookup_type, builtinLookup_eq_fast]; kernel_rfl) (by decide +kernel) (by decide +kernel) (by decide +kernel)
    (by first | exact .inl (by decide +kernel) | exact .inr (by decide +kernel)) sub_cb
theorem entry_cb_iter : entryFor table "itertools.combinations.__iter__" = some Builtin.«dict_keyiterator.__iter__» :=
  entryFor_alias (id' := "dict_keyiterator.__iter__") (by kernel_rfl) (by first | rfl | decide +kernel | (unfold String.splitOn; simp +decide [String.splitOnAux])) (by decide +kernel) (by kernel_rfl)
theorem entry_cb_next : entryFor table "itertools.combinations.__next__" = some Builtin.«itertools.combinations.__next__» := entryFor_of_tree (by kernel_rfl)
theorem owner_cb : Manifest.owners.lookup (String.ofList "itertools.combinations".toList.reverse.reverse) = some Manifest.sig_itertools_combinations := by kernel_rfl
theorem args_cb_iter (a : Value) : argsOk "itertools.combinations.__iter__" ⟨[a], []⟩ := by
  unfold argsOk; rw [signature?_of (id := "itertools.combinations.__iter__") (n := "__iter__".toList.reverse) (o := "itertools.combinations".toList.reverse) (by kernel_rfl) owner_cb]; kernel_rfl
theorem args_cb_next (a : Value) : argsOk "itertools.combinations.__next__" ⟨[a], []⟩ := by
  unfold argsOk; rw [signature?_of (id := "itertools.combinations.__next__") (n := "__next__".toList.reverse) (o := "itertools.combinations".toList.reverse) (by kernel_rfl) owner_cb]; kernel_rfl
theorem noDict_cb : typeHasDict (.type "itertools.combinations") = false := by decide +kernel
end Cb

namespace Cb
open PySem PySem.Spec PyProof.Rows
open Sem (wp)
/-- the record at it -/
abbrev cbObj (pool : Addr) (st : Int) (last : Value) (idx : List Nat) : Obj := { cls := .type "itertools.combinations", dict := none, data := .fields ([.ref pool, .int st 0, last] ++ idx.map fun i : Nat => Value.int i 0).toArray, slots := #[] }
section
variable {prog : Program} {w : World} {A : Around} {E : Value → Shared → Prop} {s : Shared}
theorem code_cb_new {it : Value} {r : Int} {t : Tok} {P : List Value → Prop} {Q₁ : Value → Shared → Prop} (h0 : 0 ≤ r) (h1 : r ≤ 1000)
    (hcol : ∀ (Q : List Value → Shared → Prop) (E' : Value → Shared → Prop), (∀ (h' : Heap) (tk : Nat) (us : List Value), (∀ b o, s.heap.get? b = some o → h'.get? b = some o) → P us → Q us { s with heap := h', toks := tk }) → wpAny (model prog w) A.in1 (collect it) Q E' s)
    (hP : ∀ us, P us → us.length ≤ sizeLine)
    (h : ∀ (h' : Heap) (tk : Nat) (us : List Value), (∀ b o, s.heap.get? b = some o → h'.get? b = some o) → P us →
      Q₁ (.ref (h'.push { cls := .type "tuple", data := .seq us.toArray }).objs.size) { s with heap := (h'.push { cls := .type "tuple", data := .seq us.toArray }).push (cbObj h'.objs.size (if r.toNat > us.length then 2 else 0) .none (List.range r.toNat)), toks := tk }) :
    codeAny (model prog w) A (.call (.builtin "itertools.combinations.__new__") ⟨[.type "itertools.combinations", it, .int r t], []⟩) (wants Q₁ E) s := by
  refine codeAny_of_tree ?_
  show wpAny _ A.in1 (do checkBuiltinCall "itertools.combinations.__new__" ⟨[.type "itertools.combinations", it, .int r t], []⟩; again (.builtin "itertools.combinations.__new__" ⟨[.type "itertools.combinations", it, .int r t], []⟩)) _ _ s
  refine wpAny_bind (wpAny_of_eq (newCall_cb_2 _ _) (wpAny_pure ⟨plainId_quiet (by decide +kernel) _, codeAny_builtin entry_cb_new ?_⟩))
  rw [Around.under_plainId (by decide +kernel) _]
  have hd := noDict_cb
  have hr : (decide (r < -(2 ^ 63 : Int)) || decide (r ≥ (2 ^ 63 : Int))) = false := by
    rw [decide_eq_false (by omega), decide_eq_false (by omega)]; rfl
  have hbig : Builtin.Itertools.itTooMany r = false := by
    unfold Builtin.Itertools.itTooMany
    exact decide_eq_false (by omega)
  have bn : Builtin.Itertools.itBindNamed "combinations" ["iterable", "r"] 2 2 [it, .int r t] [] = (pure [some it, some (.int r t)] : Sem _) := by kernel_rfl
  have sz : Builtin.Itertools.itSsizeArg (.int r t) = (pure r : Sem _) := by
    unfold Builtin.Itertools.itSsizeArg
    show (if (decide (r < -(2 ^ 63 : Int)) || decide (r ≥ (2 ^ 63 : Int))) = true then _ else pure r) = (pure r : Sem _)
    rw [hr]; rfl
  have cr : Builtin.Itertools.itClassAndRest "combinations" ⟨[.type "itertools.combinations", it, .int r t], []⟩ = (isSubtype (.type "itertools.combinations") (.type "itertools.combinations") >>= fun b => if (!b) = true then (do
        rule "itertools.__new__.not-a-subtype"; let a ← typeName (.type "itertools.combinations"); let b ← typeName (.type "itertools.combinations")
        raiseError "TypeError" s!"{"itertools." ++ "combinations"}.__new__({a}): {b} is not a subtype of {"itertools." ++ "combinations"}"; pure (.type "itertools.combinations", [it, .int r t])) else pure (.type "itertools.combinations", [it, .int r t]) : Sem _) := by kernel_rfl
  rw [sub_cb] at cr
  show wpAny _ A.in1 ((Builtin.Itertools.itClassAndRest "combinations" ⟨[.type "itertools.combinations", it, .int r t], []⟩ >>= _) >>= _) _ _ s
  rw [cr]
  refine wpAny_bind (wpAny_bind (wpAny_bind (wpAny_pure ?_)))
  rw [if_neg (by decide)]
  refine wpAny_pure ?_
  dsimp only
  rw [bn]
  refine wpAny_bind (wpAny_pure ?_)
  dsimp only
  rw [sz]
  refine wpAny_bind (wpAny_pure ?_)
  refine wpAny_bind (hcol _ _ fun h' tk us hk hp => ?_)
  rw [if_neg (by omega), hbig]
  rw [if_neg (by decide)]
  refine wpAny_bind ?_
  unfold newTuple
  refine wpAny_newObj_type ?_ (by have := hP us hp; show us.toArray.size ≤ sizeLine; simpa using this)
  refine wpAny_pure ?_
  refine wpAny_bind ?_
  unfold Builtin.Itertools.itNewRecord
  dsimp only
  rw [hd]
  rw [if_pos (by decide)]
  refine wpAny_newObj_type ?_ ?_
  · refine wpAny_pure ?_
    have e := h h' tk us hk hp
    exact e
  · first | trivial | (show _ ≤ sizeLine + 2; simp [sizeLine_eq]; omega)
theorem call_cb {it : Value} {r : Int} {t : Tok} {P : List Value → Prop} {Q : Value → Shared → Prop} (h0 : 0 ≤ r) (h1 : r ≤ 1000)
    (hcol : ∀ (A' : Around) (Q : List Value → Shared → Prop) (E' : Value → Shared → Prop), A'.handled = A.handled → (∀ (h' : Heap) (tk : Nat) (us : List Value), (∀ b o, s.heap.get? b = some o → h'.get? b = some o) → P us → Q us { s with heap := h', toks := tk }) → wpAny (model prog w) A' (collect it) Q E' s)
    (hP : ∀ us, P us → us.length ≤ sizeLine)
    (h : ∀ (h' : Heap) (tk : Nat) (us : List Value), (∀ b o, s.heap.get? b = some o → h'.get? b = some o) → P us →
      Q (.ref (h'.push { cls := .type "tuple", data := .seq us.toArray }).objs.size) { s with heap := (h'.push { cls := .type "tuple", data := .seq us.toArray }).push (cbObj h'.objs.size (if r.toNat > us.length then 2 else 0) .none (List.range r.toNat)), toks := tk }) :
    wpAny (model prog w) A (call (.type "itertools.combinations") [it, .int r t]) Q E s := by
  refine callType_codes (Q₁ := fun obj s₁ => s₁.TypeIs obj "itertools.combinations" ∧ Q obj s₁) called_cb (typeCall_cb_2 _ _) F.entry_object_init
    (code_cb_new (A := A.in1) (P := P) h0 h1 (fun Q E' hq => hcol _ Q E' rfl hq) hP fun h' tk us hk hp => ⟨⟨_, Heap.get?_push_size _ rfl, rfl⟩, ?_⟩) fun obj s₁ h₁ => ?_
  · exact h h' tk us hk hp
  · exact ⟨h₁.1, F.args_object_init_3 obj _ _, object_init_meets called_cb.init.lookup called_cb.made (by decide +kernel) prog w A.in1 _ s₁ ⟨h₁.1, rfl, h₁.2⟩⟩

/-- the next indices -/
def nextC (n : Nat) (indices : List Nat) : Option (List Nat) :=
  let r := indices.length
  match (List.range r).reverse.find? fun i => indices.getD i 0 != i + n - r with
  | none => none
  | some i => some (indices.take i ++ (List.range (r - i)).map (indices.getD i 0 + 1 + ·))
def pickV (us : Array Value) (idx : List Nat) : List Value := idx.map fun i => us.getD i .none
theorem idx_back (pool : Addr) (st : Int) (last : Value) (idx : List Nat) : List.map (fun x : Value => match x with | .int n _ => n.toNat | _ => 0) (List.drop 3 ([Value.ref pool, Value.int st 0, last] ++ idx.map fun i : Nat => Value.int i 0).toArray.toList) = idx := by
  have e : (List.drop 3 ([Value.ref pool, Value.int st 0, last] ++ idx.map fun i : Nat => Value.int i 0).toArray.toList) = idx.map fun i : Nat => Value.int i 0 := by simp
  rw [e, List.map_map]
  induction idx with
  | nil => rfl
  | cons x l ih => rw [List.map_cons, ih (by simp)]; rfl
/-- the tuple at pool -/
abbrev tupO (us : Array Value) : Obj := { cls := .type "tuple", data := .seq us }
theorem set1 (pool : Addr) (st st' : Int) (last : Value) (idx : List Nat) : (([Value.ref pool, Value.int st 0, last] ++ idx.map fun i : Nat => Value.int i 0).toArray).setIfInBounds 1 (rawInt st') = ([Value.ref pool, Value.int st' 0, last] ++ idx.map fun i : Nat => Value.int i 0).toArray := by
  simp [rawInt]
theorem set2 (pool : Addr) (st : Int) (last x : Value) (idx : List Nat) : (([Value.ref pool, Value.int st 0, last] ++ idx.map fun i : Nat => Value.int i 0).toArray).setIfInBounds 2 x = ([Value.ref pool, Value.int st 0, x] ++ idx.map fun i : Nat => Value.int i 0).toArray := by
  simp
theorem set3 (pool : Addr) (st : Int) (last : Value) (idx j : List Nat) : (([Value.ref pool, Value.int st 0, last] ++ idx.map fun i : Nat => Value.int i 0).toArray).extract 0 3 ++ (j.map fun n : Nat => rawInt n).toArray = ([Value.ref pool, Value.int st 0, last] ++ j.map fun i : Nat => Value.int i 0).toArray := by
  simp [rawInt]
theorem hand_ok {it pool : Addr} {st : Int} {last : Value} {idx : List Nat} {us : Array Value} {Q : Fin → Shared → Prop} (hne : it ≠ pool) (hz : idx.length ≤ 1000) (hit : s.heap.get? it = some (cbObj pool st last idx)) (hp : s.heap.get? pool = some (tupO us))
    (h : ∀ h', h'.get? it = some (cbObj pool st (.ref s.heap.objs.size) idx) → h'.get? s.heap.objs.size = some (tupO (pickV us idx).toArray) → (∀ c o, c ≠ it → s.heap.get? c = some o → h'.get? c = some o) → Q (.done (.ret (.ref s.heap.objs.size))) { s with heap := h' }) :
    wpAny (model prog w) A ((do
      let items ← Builtin.Itertools.itPoolItems (.ref pool)
      newTuple (idx.map fun i => items.getD i .none)) >>= fun result => (do
      let before ← field (.ref it) 2
      setField (.ref it) 2 result
      letGo [before] [result]
      ret result : Sem Fin)) Q E s := by
  refine wpAny_bind ?_
  refine wpAny_bind ?_
  unfold Builtin.Itertools.itPoolItems
  refine wpAny_bind (wpAny_seqItems hp rfl (wpAny_pure ?_))
  unfold newTuple
  refine wpAny_newObj_type ?_ (by show (List.toArray _).size ≤ sizeLine; simp [sizeLine_eq]; omega)
  have hit1 : (s.heap.push (tupO (pickV us idx).toArray)).get? it = some (cbObj pool st last idx) := Heap.get?_push_of_some _ hit
  refine wpAny_bind (wpAny_field hit1 rfl (x := last) (by simp) ?_)
  refine wpAny_bind (wpAny_setField_rec hit1 (by simp) fun h2 hit2 hs2 => ?_)
  rw [set2] at hit2
  refine wpAny_bind (wpAny_letGo ?_)
  refine wpAny_pure (h h2 hit2 ?_ fun c o hc e => (hs2.2 c hc).trans (Heap.get?_push_of_some _ e))
  exact (hs2.2 _ (Nat.ne_of_gt (Heap.lt_size hit))).trans (Heap.get?_push_size _ rfl)
theorem cb_item {it pool : Addr} {st : Int} {last : Value} {idx j : List Nat} {us : Array Value} {Q : Fin → Shared → Prop} (hne : it ≠ pool) (hz : j.length ≤ 1000) (hit : s.heap.get? it = some (cbObj pool st last idx)) (hp : s.heap.get? pool = some (tupO us))
    (hst : (st = 0 ∧ j = idx) ∨ (st = 1 ∧ nextC us.size idx = some j))
    (h : ∀ h', h'.get? it = some (cbObj pool 1 (.ref s.heap.objs.size) j) → h'.get? s.heap.objs.size = some (tupO (pickV us j).toArray) → (∀ c o, c ≠ it → s.heap.get? c = some o → h'.get? c = some o) → Q (.done (.ret (.ref s.heap.objs.size))) { s with heap := h' }) :
    wpAny (model prog w) A (Builtin.«itertools.combinations.__next__» ⟨[.ref it], []⟩) Q E s := by
  unfold Builtin.«itertools.combinations.__next__»
  show wpAny _ _ (field (.ref it) 0 >>= _) _ _ s
  refine wpAny_bind (wpAny_field hit rfl (x := .ref pool) rfl ?_)
  show wpAny _ _ (Builtin.Itertools.itNumbersFrom (.ref it) 3 >>= _) _ _ s
  have e : Builtin.Itertools.itNumbersFrom (.ref it) 3 = (load it >>= fun o => match o.data with | .fields fs => pure ((fs.toList.drop 3).map fun | .int n _ => n.toNat | _ => 0) | _ => unsupported "internal:itertools.numbers" : Sem _) := by rfl
  rw [e]
  refine wpAny_bind (wpAny_bind (wpAny_load hit ?_))
  refine wpAny_pure ?_
  have ib := idx_back pool st last idx
  dsimp only at ib ⊢
  generalize List.map _ (List.drop 3 _) = q at ib ⊢
  subst ib
  have e2 : Builtin.Itertools.itIntField (.ref it) 1 = (field (.ref it) 1 >>= fun v => match v with | .int n _ => pure n | _ => unsupported "internal:itertools.int-field" : Sem _) := by rfl
  rw [e2]
  refine wpAny_bind (wpAny_bind (wpAny_field hit rfl (x := .int st 0) (by simp) ?_))
  refine wpAny_pure ?_
  rcases hst with ⟨rfl, rfl⟩ | ⟨rfl, hn⟩
  · refine wpAny_bind (wpAny_setField_rec hit (by simp) fun h1 hit1 hs1 => ?_)
    rw [set1] at hit1
    have z : h1.objs.size = s.heap.objs.size := hs1.1
    refine hand_ok (s := { s with heap := h1 }) hne hz hit1 ((hs1.2 _ (Ne.symm hne)).trans hp) fun h' a1 a2 a3 => ?_
    dsimp only at a1 a2 ⊢
    rw [z] at a1 a2 ⊢
    exact h h' a1 a2 fun c o hc q => a3 c o hc ((hs1.2 c hc).trans q)
  · show wpAny _ _ (Builtin.Itertools.itPoolItems (.ref pool) >>= _) _ _ s
    refine wpAny_bind ?_
    unfold Builtin.Itertools.itPoolItems
    refine wpAny_bind (wpAny_seqItems hp rfl (wpAny_pure ?_))
    show wpAny _ _ (match nextC us.size q with
      | some next => Builtin.Itertools.itSetNumbersFrom (.ref it) 3 next >>= fun _ => ((do
          let items ← Builtin.Itertools.itPoolItems (.ref pool)
          newTuple (next.map fun i => items.getD i .none)) >>= fun result => (do
          let before ← field (.ref it) 2
          setField (.ref it) 2 result
          letGo [before] [result]
          ret result : Sem Fin))
      | none => (do setField (.ref it) 1 (rawInt 2); Builtin.Itertools.itStop)) _ _ s
    rw [hn]
    have e3 : Builtin.Itertools.itSetNumbersFrom (.ref it) 3 j = (updateFields it fun fs => fs.extract 0 3 ++ (j.map fun (n : Nat) => rawInt n).toArray : Sem _) := by rfl
    dsimp only
    rw [e3]
    refine wpAny_bind (wpAny_updateFields hit rfl ?_ (by simp [sizeLine_eq]; omega))
    have hit1 : (s.heap.update it (Obj.mapFields fun fs => fs.extract 0 3 ++ (j.map fun (n : Nat) => rawInt n).toArray)).get? it = some (cbObj pool 1 last j) := by
      refine (Heap.get?_update_self _ hit rfl).trans ?_
      have := set3 pool 1 last q j
      show some (Obj.mapFields _ (cbObj pool 1 last q)) = _
      unfold Obj.mapFields
      dsimp only
      rw [this]
    have z : (s.heap.update it (Obj.mapFields fun fs => fs.extract 0 3 ++ (j.map fun (n : Nat) => rawInt n).toArray)).objs.size = s.heap.objs.size := (Heap.SameBut.update ..).1
    have oth : ∀ c o, c ≠ it → s.heap.get? c = some o → (s.heap.update it (Obj.mapFields fun fs => fs.extract 0 3 ++ (j.map fun (n : Nat) => rawInt n).toArray)).get? c = some o := fun c o hc q => (Heap.get?_update_other _ _ (Ne.symm hc)).trans q
    refine hand_ok (s := { s with heap := _ }) hne hz hit1 (oth _ _ (Ne.symm hne) hp) fun h' a1 a2 a3 => ?_
    dsimp only at a1 a2 ⊢
    rw [z] at a1 a2 ⊢
    exact h h' a1 a2 fun c o hc q => a3 c o hc (oth c o hc q)
end
end Cb

namespace Cb
open PySem PySem.Spec PyProof.Rows
section
variable {prog : Program} {w : World} {A : Around} {E : Value → Shared → Prop} {s : Shared}
theorem stop_ok {Q : PySem.Fin → Shared → Prop} (hh : A.handled = none)
    (hE : ∀ h' e, (∀ c o, s.heap.get? c = some o → h'.get? c = some o) → (∃ o, h'.get? e = some o ∧ o.cls = .type "StopIteration") → E (.ref e) { s with heap := h' }) :
    wpAny (model prog w) A (Builtin.Itertools.itStop : Sem PySem.Fin) Q E s := by
  show wpAny _ _ (newExc (.type "StopIteration") [] >>= fun e => raiseNew e) _ _ _
  refine wpAny_bind ?_
  simp only [newExc, newTuple]
  refine wpAny_bind (wpAny_newObj_type ?_ (by size_fits))
  refine wpAny_bind (m := firstArgMember _ _) (wpAny_of_eq (a := Value.none) (by first | rfl | (simp only [firstArgMember]; rfl)) ?_)
  refine wpAny_newObj_type ?_ (by size_fits)
  simp only [raiseNew]
  refine wpAny_bind (wpAny_handled ?_)
  first | rw [show A.in1.handled = none from hh] | rw [hh]
  refine wpAny_bind (wpAny_pure (wpAny_throw ?_))
  exact hE _ _ (fun c o q => Heap.get?_push_of_some _ (Heap.get?_push_of_some _ q)) ⟨_, Heap.get?_push_size _ rfl, rfl⟩
theorem cb_end {it pool : Addr} {st : Int} {last : Value} {idx : List Nat} {us : Array Value} {Q : PySem.Fin → Shared → Prop} (hh : A.handled = none) (hne : it ≠ pool) (hit : s.heap.get? it = some (cbObj pool st last idx)) (hp : s.heap.get? pool = some (tupO us))
    (hst : st = 2 ∨ (st = 1 ∧ nextC us.size idx = none))
    (hE : ∀ h' e, (∀ c o, c ≠ it → s.heap.get? c = some o → h'.get? c = some o) → (∃ o, h'.get? e = some o ∧ o.cls = .type "StopIteration") → E (.ref e) { s with heap := h' }) :
    wpAny (model prog w) A (Builtin.«itertools.combinations.__next__» ⟨[.ref it], []⟩) Q E s := by
  unfold Builtin.«itertools.combinations.__next__»
  show wpAny _ _ (field (.ref it) 0 >>= _) _ _ s
  refine wpAny_bind (wpAny_field hit rfl (x := .ref pool) rfl ?_)
  show wpAny _ _ (Builtin.Itertools.itNumbersFrom (.ref it) 3 >>= _) _ _ s
  have e : Builtin.Itertools.itNumbersFrom (.ref it) 3 = (load it >>= fun o => match o.data with | .fields fs => pure ((fs.toList.drop 3).map fun | .int n _ => n.toNat | _ => 0) | _ => unsupported "internal:itertools.numbers" : Sem _) := by rfl
  rw [e]
  refine wpAny_bind (wpAny_bind (wpAny_load hit ?_))
  refine wpAny_pure ?_
  have ib := idx_back pool st last idx
  dsimp only at ib ⊢
  generalize List.map _ (List.drop 3 _) = q at ib ⊢
  subst ib
  have e2 : Builtin.Itertools.itIntField (.ref it) 1 = (field (.ref it) 1 >>= fun v => match v with | .int n _ => pure n | _ => unsupported "internal:itertools.int-field" : Sem _) := by rfl
  rw [e2]
  refine wpAny_bind (wpAny_bind (wpAny_field hit rfl (x := .int st 0) (by simp) ?_))
  refine wpAny_pure ?_
  rcases hst with rfl | ⟨rfl, hn⟩
  · refine wpAny_bind (wpAny_rule ?_)
    exact stop_ok hh fun h' e k he => hE h' e (fun c o _ q => k c o q) he
  · show wpAny _ _ (Builtin.Itertools.itPoolItems (.ref pool) >>= _) _ _ s
    refine wpAny_bind ?_
    unfold Builtin.Itertools.itPoolItems
    refine wpAny_bind (wpAny_seqItems hp rfl (wpAny_pure ?_))
    show wpAny _ _ (match nextC us.size q with
      | some next => Builtin.Itertools.itSetNumbersFrom (.ref it) 3 next >>= fun _ => ((do
          let items ← Builtin.Itertools.itPoolItems (.ref pool)
          newTuple (next.map fun i => items.getD i .none)) >>= fun result => (do
          let before ← field (.ref it) 2
          setField (.ref it) 2 result
          letGo [before] [result]
          ret result : Sem PySem.Fin))
      | none => (do setField (.ref it) 1 (rawInt 2); Builtin.Itertools.itStop)) _ _ s
    rw [hn]
    dsimp only
    refine wpAny_bind (wpAny_setField_rec hit (by simp) fun h1 hit1 hs1 => ?_)
    exact stop_ok hh fun h' e k he => hE h' e (fun c o hc q => k c o ((hs1.2 c hc).trans q)) he
theorem next_item {it pool : Addr} {st : Int} {last : Value} {idx j : List Nat} {us : Array Value} {Q : Option Value → Shared → Prop} (hne : it ≠ pool) (hz : j.length ≤ 1000) (hit : s.heap.get? it = some (cbObj pool st last idx)) (hp : s.heap.get? pool = some (tupO us))
    (hst : (st = 0 ∧ j = idx) ∨ (st = 1 ∧ nextC us.size idx = some j))
    (h : ∀ h', h'.get? it = some (cbObj pool 1 (.ref s.heap.objs.size) j) → h'.get? s.heap.objs.size = some (tupO (pickV us j).toArray) → (∀ c o, c ≠ it → s.heap.get? c = some o → h'.get? c = some o) → Q (some (.ref s.heap.objs.size)) { s with heap := h' }) :
    wpAny (model prog w) A (pyNext (.ref it)) Q E s := by
  have hT : s.TypeIs (.ref it) "itertools.combinations" := ⟨_, hit, rfl⟩
  unfold pyNext
  exact wpAny_bind (wpAny_attempt (wpAny_callSpecial?_slot (name := Str.ofString "__next__") hT slot_cb_next
    (wpAny_call_entry slot_cb_next hT entry_cb_next
      (cb_item hne hz hit hp hst fun h' a1 a2 a3 => ⟨_, rfl, wpAny_pure (h h' a1 a2 a3)⟩) (args_cb_next _))))
theorem next_end {it pool : Addr} {st : Int} {last : Value} {idx : List Nat} {us : Array Value} {Q : Option Value → Shared → Prop} (hh : A.handled = none) (hne : it ≠ pool) (hit : s.heap.get? it = some (cbObj pool st last idx)) (hp : s.heap.get? pool = some (tupO us))
    (hst : st = 2 ∨ (st = 1 ∧ nextC us.size idx = none))
    (hQ : ∀ h', (∀ c o, c ≠ it → s.heap.get? c = some o → h'.get? c = some o) → Q none { s with heap := h' }) : wpAny (model prog w) A (pyNext (.ref it)) Q E s := by
  have hT : s.TypeIs (.ref it) "itertools.combinations" := ⟨_, hit, rfl⟩
  unfold pyNext
  refine wpAny_bind (wpAny_attempt (wpAny_callSpecial?_slot (name := Str.ofString "__next__") hT slot_cb_next
    (wpAny_call_entry slot_cb_next hT entry_cb_next (cb_end hh hne hit hp hst fun h' e hk he => ?_) (args_cb_next _))))
  obtain ⟨o, ho, hc⟩ := he
  refine wpAny_bind (wpAny_isInstance (T := "StopIteration") (b := true) ⟨o, ho, hc⟩ isSubtype_stop ?_)
  exact wpAny_pure (hQ _ hk)
theorem iter_cb {it pool : Addr} {st : Int} {last : Value} {idx : List Nat} {Q : Value → Shared → Prop} (hit : s.heap.get? it = some (cbObj pool st last idx)) (h : Q (.ref it) s) : wpAny (model prog w) A (pyIter (.ref it)) Q E s := by
  have hT : s.TypeIs (.ref it) "itertools.combinations" := ⟨_, hit, rfl⟩
  refine wpAny_pyIter_slot hT slot_cb_iter (wpAny_call_entry slot_cb_iter hT entry_cb_iter ?_ (args_cb_iter _))
  show wpAny _ _ (ret (.ref it)) _ _ s
  exact wpAny_pure ⟨_, rfl, "itertools.combinations", _, hT, slot_cb_next.lookup, h⟩
end
end Cb

/-! Cb3: combinations(..) walked, over the layer. -/
namespace Cb
open PySem PySem.Spec PyProof.Rows L2

def cbSeq (n r : Nat) : Nat → Option (List Nat)
  | 0 => if r > n then none else some (List.range r)
  | k + 1 => (cbSeq n r k).bind (nextC n)
theorem nextC_len {n : Nat} {idx j : List Nat} (h : nextC n idx = some j) : j.length = idx.length := by
  unfold nextC at h
  dsimp only at h
  split at h
  · cases h
  · rename_i i hi
    have hm := List.mem_of_find?_eq_some hi
    rw [List.mem_reverse, List.mem_range] at hm
    simp only [Option.some.injEq] at h
    subst h
    simp
    omega
theorem cbSeq_len {n r : Nat} : ∀ {k : Nat} {j : List Nat}, cbSeq n r k = some j → j.length = r
  | 0, j, h => by
    unfold cbSeq at h
    split at h
    · cases h
    · simp only [Option.some.injEq] at h
      subst h; simp
  | k + 1, j, h => by
    simp only [cbSeq, Option.bind_eq_some_iff] at h
    obtain ⟨i, h1, h2⟩ := h
    rw [nextC_len h2, cbSeq_len h1]
/-- what is handed out -/
def ItC (xs : List V) (r : Nat) : It :=
  ⟨fun i _ => ∃ j, cbSeq xs.length r i = some j,
   fun i H v H' => ∃ (T : Addr) (j : List Nat), v = .ref T ∧ H T = none ∧ H' = upd H T (.tup (j.map fun k => xs.getD k .non)) ∧ cbSeq xs.length r i = some j,
   fun i _ => cbSeq xs.length r i = none⟩
theorem vals_pick {xs : List V} {us : List Value} (r : Vals xs us) : ∀ j : List Nat, Vals (j.map fun k => xs.getD k .non) (pickV us.toArray j)
  | [] => .nil
  | k :: j => by
    refine .cons ?_ (vals_pick r j)
    have hl := r.length
    by_cases hk : k < xs.length
    · have hx : xs[k]? = some xs[k] := List.getElem?_eq_getElem hk
      obtain ⟨u, hu, ru⟩ := r.get hx
      have e1 : xs.getD k .non = xs[k] := by rw [List.getD_eq_getElem?_getD, hx]; rfl
      have e2 : us.toArray.getD k .none = u := by
        rw [Array.getD_eq_getD_getElem?, List.getElem?_toArray, hu]; rfl
      show RelV (xs.getD k .non) (us.toArray.getD k .none)
      rw [e1, e2]; exact ru
    · have e1 : xs.getD k .non = .non := by rw [List.getD_eq_getElem?_getD, List.getElem?_eq_none (by omega)]; rfl
      have e2 : us.toArray.getD k .none = .none := by
        rw [Array.getD_eq_getD_getElem?, List.getElem?_toArray, List.getElem?_eq_none (by omega)]; rfl
      show RelV (xs.getD k .non) (us.toArray.getD k .none)
      rw [e1, e2]; rfl
def CbSt (us : List Value) (pool it : Addr) (r : Nat) (i : Nat) (h : Heap) : Prop :=
  ∃ st last idx, h.get? it = some (cbObj pool st last idx) ∧ h.get? pool = some (tupO us.toArray) ∧ ((i = 0 ∧ idx = List.range r ∧ st = if r > us.length then 2 else 0) ∨ ∃ k, i = k + 1 ∧ st = 1 ∧ cbSeq us.length r k = some idx)
theorem turn_cb {P : Program} {w : World} {K : PySem.W.Frag} {tg : Expr} {xs : List V} {us : List Value} {pool it : Addr} {r : Nat} (hr : r ≤ 1000) (rv : Vals xs us) (hne : it ≠ pool) : Turn P w K tg (ItC xs r) [it, pool] it (CbSt us pool it r) where
  mem := by simp
  obj := fun i h st b hb => by
    obtain ⟨a, l, idx, h1, h2, _⟩ := st
    have e : b = it ∨ b = pool := by simpa using hb
    rcases e with rfl | rfl
    · exact ⟨_, h1, fun v z => by cases z⟩
    · exact ⟨_, h2, fun v z => by cases z⟩
  keep := fun i h h' st k => by
    obtain ⟨a, l, idx, h1, h2, h3⟩ := st
    exact ⟨a, l, idx, k it (by simp) _ h1, k pool (by simp) _ h2, h3⟩
  item := by
    intro X hP hw hK hc i pins s σ H E I hf st hg
    subst hP hw hK
    obtain ⟨a, l, idx, h1, h2, h3⟩ := st
    obtain ⟨j, hj⟩ := hg
    have hl := rv.length
    have hjl := cbSeq_len hj
    have hst : (a = 0 ∧ j = idx) ∨ (a = 1 ∧ nextC us.toArray.size idx = some j) := by
      rcases h3 with ⟨rfl, rfl, rfl⟩ | ⟨k, rfl, rfl, h4⟩
      · unfold cbSeq at hj
        split at hj
        · cases hj
        · rename_i hn
          simp only [Option.some.injEq] at hj
          exact .inl ⟨by rw [if_neg (by omega)], hj.symm⟩
      · simp only [cbSeq, hl, h4, Option.bind_some] at hj
        exact .inr ⟨rfl, by simpa using hj⟩
    refine next_item hne (by omega) h1 h2 hst fun h' a1 a2 a3 => ?_
    refine ⟨_, rfl, go_of (s := { s with heap := h' }) (n := "itertools.combinations") a1 rfl rfl (by decide) ?_⟩
    have nT : H s.heap.objs.size = none := I.hok.fresh (Nat.le_refl _)
    have new : ObjOk X.prog X.w (upd H s.heap.objs.size (.tup (j.map fun k => xs.getD k .non))) h' s.heap.objs.size (.tup (j.map fun k => xs.getD k .non)) :=
      ⟨by rw [List.length_map, sizeLine_eq]; omega, _, vals_pick rv j, ⟨_, a2, rfl, _, rfl⟩⟩
    have I1 : Inv X pins σ (upd H s.heap.objs.size (.tup (j.map fun k => xs.getD k .non))) { s with heap := h' } :=
      I.turnedNew (t' := s.toks) (ch := [it, pool]) (fun b o hb q => a3 b o (fun z => hb (by simp [z])) q) hf (Nat.le_refl _) new
    refine ⟨.ref s.heap.objs.size, _, I1, rfl, ⟨_, j, rfl, nT, rfl, hj⟩, ⟨1, _, j, a1, a3 _ _ (Ne.symm hne) h2, .inr ⟨i, rfl, rfl, by rw [← hl]; exact hj⟩⟩, fun b hb => ?_⟩
    have hlt : b < s.heap.objs.size := by
      have e : b = it ∨ b = pool := by simpa using hb
      rcases e with rfl | rfl
      · exact Heap.lt_size h1
      · exact Heap.lt_size h2
    rw [upd_ne (Nat.ne_of_lt hlt)]
    exact (hf b hb).1
  done := by
    intro X hP hw hK hc i pins s σ H E I hf st hg
    subst hP hw hK
    obtain ⟨a, l, idx, h1, h2, h3⟩ := st
    have hl := rv.length
    have hg : cbSeq xs.length r i = none := hg
    have hst : a = 2 ∨ (a = 1 ∧ nextC us.toArray.size idx = none) := by
      rcases h3 with ⟨rfl, rfl, rfl⟩ | ⟨k, rfl, rfl, h4⟩
      · unfold cbSeq at hg
        split at hg
        · rename_i hn
          exact .inl (by rw [if_pos (by omega)])
        · cases hg
      · simp only [cbSeq, hl, h4, Option.bind_some] at hg
        exact .inr ⟨rfl, by simpa using hg⟩
    exact next_end (I.ok.hd hc) hne h1 h2 hst fun h' k => ⟨rfl, I.turnedL (t' := s.toks) (ch := [it, pool]) (fun b o hb q => k b o (fun z => hb (by simp [z])) q) hf⟩
  self := fun _ _ _ _ _ st h => by
    obtain ⟨a, l, idx, h1, h2, h3⟩ := st
    exact iter_cb h1 h

/-- where the iterator has come -/
theorem cb_it {X : Cx} {tg : Expr} {pins : List (Addr × Obj)} {σ : L2.St} {H : Hp} {s : Shared} {h' : Heap} {tk : Nat} {xs : List V} {us : List Value} {r : Int} {R : It → Hp → Prop} {E : Value → Shared → Prop} (I : Inv X pins σ H s) (k : ∀ b o, s.heap.get? b = some o → h'.get? b = some o) (rv : Vals xs us) (h0 : 0 ≤ r) (h1 : r ≤ 1000) (q : R (ItC xs r.toNat) H) :
    wpAny (model X.prog X.w) X.A (pyIter (.ref (h'.push { cls := .type "tuple", data := .seq us.toArray }).objs.size)) (PIE X pins σ tg R) E { s with heap := (h'.push { cls := .type "tuple", data := .seq us.toArray }).push (cbObj h'.objs.size (if r.toNat > us.length then 2 else 0) .none (List.range r.toNat)), toks := tk } := by
  have e2 : (h'.push { cls := .type "tuple", data := .seq us.toArray }).objs.size = h'.objs.size + 1 := Heap.size_push ..
  have g2 : ((h'.push { cls := .type "tuple", data := .seq us.toArray }).push (cbObj h'.objs.size (if r.toNat > us.length then 2 else 0) .none (List.range r.toNat))).get? (h'.push { cls := .type "tuple", data := .seq us.toArray }).objs.size = some (cbObj h'.objs.size (if r.toNat > us.length then 2 else 0) .none (List.range r.toNat)) := Heap.get?_push_size _ rfl
  have g1 : ((h'.push { cls := .type "tuple", data := .seq us.toArray }).push (cbObj h'.objs.size (if r.toNat > us.length then 2 else 0) .none (List.range r.toNat))).get? h'.objs.size = some (tupO us.toArray) := Heap.get?_push_of_some _ (Heap.get?_push_size _ rfl)
  refine iter_cb g2 ?_
  have I4 : Inv X pins σ H { s with heap := h', toks := tk } := I.kept k
  have I5 : Inv X pins σ H { s with heap := (h'.push { cls := .type "tuple", data := .seq us.toArray }).push (cbObj h'.objs.size (if r.toNat > us.length then 2 else 0) .none (List.range r.toNat)), toks := tk } :=
    I4.kept (t' := tk) fun b o e => Heap.get?_push_of_some _ (Heap.get?_push_of_some _ e)
  refine ⟨_, [_, h'.objs.size], _, _, H, rfl, I5, turn_cb (r := r.toNat) (by omega) rv (by rw [e2]; exact Nat.succ_ne_self _), ⟨_, _, _, g2, g1, .inl ⟨rfl, rfl, rfl⟩⟩, fun b hb => ?_, q⟩
  have hle : h'.objs.size ≤ b := by
    have e : b = (h'.push { cls := .type "tuple", data := .seq us.toArray }).objs.size ∨ b = h'.objs.size := by simpa using hb
    rcases e with rfl | rfl
    · rw [e2]; omega
    · exact Nat.le_refl _
  exact I4.fpOk hle (I4.hok.fresh hle)
section
variable {X : Cx} {tg a b m l : Expr} {ta tb tm tl : TE} {p p2 pos pos2 : Pos}
def iCb2 (ta tb tm : TE) : TI := fun σ H R => ta σ H fun x H1 => tb σ H1 fun y H2 => ∃ i j : Int, x = .int i ∧ y = .int j ∧ tm σ H2 fun z H3 => ∃ k : Int, z = .int k ∧ RgOk i j ∧ 0 ≤ k ∧ k ≤ 1000 ∧ R (ItC (rgV i j) k.toNat) H3
def iCb1 (tb tm : TE) : TI := fun σ H R => tb σ H fun y H2 => ∃ j : Int, y = .int j ∧ tm σ H2 fun z H3 => ∃ k : Int, z = .int k ∧ RgOk 0 j ∧ 0 ≤ k ∧ k ≤ 1000 ∧ R (ItC (rgV 0 j) k.toNat) H3
def iCbL (K : PySem.W.Frag) (tl tm : TE) : TI := fun σ H R => tl σ H fun x H1 => tm σ H1 fun z H3 => ∃ (q : Addr) (xs : List V) (k : Int), x = .ref q ∧ z = .int k ∧ (SqL K H3 q xs ∨ SqT K H3 q xs) ∧ 0 ≤ k ∧ k ≤ 1000 ∧ R (ItC xs k.toNat) H3
/-- behind the arguments: a range -/
theorem cb_rng {pins : List (Addr × Obj)} {s : Shared} {σ : L2.St} {H : Hp} {R : It → Hp → Prop} {i j k : Int} {t u v : Tok} {r : Addr} (hc : X.calm = true) (I : Inv X pins σ H s) (hr : IsRange s.heap r i j 1 t u v) (hm : X.A.handled = none) (ok : RgOk i j) (h0 : 0 ≤ k) (h1 : k ≤ 1000) (tk : Tok) (q : R (ItC (rgV i j) k.toNat) H) :
    wpAny (model X.prog X.w) X.A (call (.type "itertools.combinations") [.ref r, .int k tk]) (fun v s1 => wpAny (model X.prog X.w) X.A (pyIter v) (PIE X pins σ tg R) X.xe s1) X.xe s := by
  obtain ⟨b1, b2, b3, b4, b5⟩ := ok
  refine call_cb (P := fun us => Vals (rgV i j) us) h0 h1 (fun A' Q E' hA hq => ?_) (fun us rv => ?_) fun h' tk us hk rv => cb_it I hk rv h0 h1 q
  · exact collect_range (n := (j - i).toNat) (hA.trans hm) hr (small_one b1 b2 b3 b4) (rangeSize_nat i j) b5 fun h' tk acc hk hi => hq h' tk acc.toList hk (vals_rg hi)
  · rw [← rv.length, rgV_length, sizeLine_eq]; omega
theorem cb_end2 {pins : List (Addr × Obj)} {s : Shared} {σ : L2.St} {H : Hp} {R : It → Hp → Prop} {Q : V → Hp → Prop} {i j : Int} {t u v : Tok} {tk : Nat} (hc : X.calm = true) (I : Inv X pins σ H s) (hmm : PE X m tm) (n2 : starEach [m] X.env = (false, eval m X.env) :: starEach [] X.env) (q : tm σ H Q)
    (hq : ∀ z H3, Q z H3 → ∃ k : Int, z = .int k ∧ RgOk i j ∧ 0 ≤ k ∧ k ≤ 1000 ∧ R (ItC (rgV i j) k.toNat) H3) :
    wpAny (model X.prog X.w) X.A (spliced (backTo pos (starEach [m] X.env))) (fun vs s₂ => wpAny (model X.prog X.w) X.A (call (.type "itertools.combinations") (.ref s.heap.objs.size :: vs)) (fun v s1 => wpAny (model X.prog X.w) X.A (pyIter v) (PIE X pins σ tg R) X.xe s1) X.xe s₂) X.xe
      { s with heap := s.heap.push { cls := .type "range", data := .fields #[.int i t, .int j u, .int 1 v] }, toks := tk } := by
  have I2 : Inv X pins σ H { s with heap := s.heap.push { cls := .type "range", data := .fields #[.int i t, .int j u, .int 1 v] }, toks := tk } := I.kept fun b o e => Heap.get?_push_of_some _ e
  have g : (s.heap.push { cls := .type "range", data := .fields #[.int i t, .int j u, .int 1 v] }).get? s.heap.objs.size = some { cls := .type "range", data := .fields #[.int i t, .int j u, .int 1 v] } := Heap.get?_push_size _ rfl
  have fp : ∀ b ∈ [s.heap.objs.size], FpOk X pins H b := fun b hb => by
    have e : b = s.heap.objs.size := by simpa using hb
    subst e
    exact I.fpOk (Nat.le_refl _) (I.hok.fresh (Nat.le_refl _))
  have I3 := I2.pinned (fp := [s.heap.objs.size]) fp fun b hb => by
    have e : b = s.heap.objs.size := by simpa using hb
    subst e
    exact ⟨_, g, fun v z => by cases z⟩
  refine one_arg hmm I3 q (fun w s3 z H3 I4 r4 q4 => ?_) n2
  obtain ⟨k, rfl, ok, h0, h1, q4⟩ := hq z H3 q4
  obtain ⟨tk', rfl⟩ := r4
  have gp : s3.heap.get? s.heap.objs.size = some { cls := .type "range", data := .fields #[.int i t, .int j u, .int 1 v] } := (I4.pin (s.heap.objs.size, _) (List.mem_append_right _ (List.mem_append_right _ (mem_pinsAt (by simp) g)))).1
  have I5 := I4.unpinned
  exact cb_rng hc I5 (show IsRange s3.heap s.heap.objs.size i j 1 t u v from gp) (I5.ok.hd hc) ok h0 h1 tk' q4
theorem pi_cb2 {x : Str} (hc : X.calm = true) (hg : Gl X x) (hm : X.mg x = some (.type "itertools.combinations")) (hgr : Gl X "range") (hmr : X.mg "range" = none) (ha : PE X a ta) (hb : PE X b tb) (hmm : PE X m tm) (hdb : (x == ("__debug__" : Str)) = false)
    (n1 : starEach [.Call (.Name "range" p2) [a, b] [] pos2, m] X.env = (false, eval (.Call (.Name "range" p2) [a, b] [] pos2) X.env) :: starEach [m] X.env) (n2 : starEach [m] X.env = (false, eval m X.env) :: starEach [] X.env)
    (n3 : starEach [a, b] X.env = (false, eval a X.env) :: starEach [b] X.env) (n4 : starEach [b] X.env = (false, eval b X.env) :: starEach [] X.env) :
    PI X tg (.Call (.Name x p) [.Call (.Name "range" p2) [a, b] [] pos2, m] [] pos) (iCb2 ta tb tm) := by
  refine ⟨fun pins s σ H R I h => ?_⟩
  refine Call_ (ld_glob I hg hm (PyProof.Rows.callWith_type1 (args_cons ?_ n1) n1 (by rw [n2]; rfl)) hdb)
  refine Call_ (ld_blt I hgr hmr boot_range (PyProof.Rows.callWith_type1 (args_cons (thn (ha.run pins s σ H _ I h) fun v s1 ⟨x, H1, I1, r1, q1⟩ => one_arg hb I1 q1 (fun u s2 y H2 I2 r2 q => ?_) n4) n3) n3 (by rw [n4]; rfl)))
  obtain ⟨i, j, rfl, rfl, q⟩ := q
  obtain ⟨t, rfl⟩ := r1
  obtain ⟨t', rfl⟩ := r2
  refine call_range_2 ?_
  exact cb_end2 hc I2 hmm n2 q fun z H3 ⟨k, ez, ok, h0, h1, q⟩ => ⟨k, ez, ok, h0, h1, q⟩
theorem pi_cb1 {x : Str} (hc : X.calm = true) (hg : Gl X x) (hm : X.mg x = some (.type "itertools.combinations")) (hgr : Gl X "range") (hmr : X.mg "range" = none) (hb : PE X b tb) (hmm : PE X m tm) (hdb : (x == ("__debug__" : Str)) = false)
    (n1 : starEach [.Call (.Name "range" p2) [b] [] pos2, m] X.env = (false, eval (.Call (.Name "range" p2) [b] [] pos2) X.env) :: starEach [m] X.env) (n2 : starEach [m] X.env = (false, eval m X.env) :: starEach [] X.env)
    (n4 : starEach [b] X.env = (false, eval b X.env) :: starEach [] X.env) :
    PI X tg (.Call (.Name x p) [.Call (.Name "range" p2) [b] [] pos2, m] [] pos) (iCb1 tb tm) := by
  refine ⟨fun pins s σ H R I h => ?_⟩
  refine Call_ (ld_glob I hg hm (PyProof.Rows.callWith_type1 (args_cons ?_ n1) n1 (by rw [n2]; rfl)) hdb)
  refine Call_ (ld_blt I hgr hmr boot_range (PyProof.Rows.callWith_type1 (one_arg hb I h (fun u s2 y H2 I2 r2 q => ?_) n4) n4))
  obtain ⟨j, rfl, q⟩ := q
  obtain ⟨t', rfl⟩ := r2
  refine call_range_1 ?_
  exact cb_end2 hc I2 hmm n2 q fun z H3 ⟨k, ez, ok, h0, h1, q⟩ => ⟨k, ez, ok, h0, h1, q⟩
theorem pi_cbL {x : Str} (hc : X.calm = true) (hg : Gl X x) (hm : X.mg x = some (.type "itertools.combinations")) (hl : PE X l tl) (hmm : PE X m tm) (hdb : (x == ("__debug__" : Str)) = false)
    (n1 : starEach [l, m] X.env = (false, eval l X.env) :: starEach [m] X.env) (n2 : starEach [m] X.env = (false, eval m X.env) :: starEach [] X.env) :
    PI X tg (.Call (.Name x p) [l, m] [] pos) (iCbL X.K tl tm) := by
  refine ⟨fun pins s σ H R I h => ?_⟩
  refine Call_ (ld_glob I hg hm (PyProof.Rows.callWith_type1 (args_cons (thn (hl.run pins s σ H _ I h) fun v s1 ⟨x, H1, I1, r1, q1⟩ => one_arg hmm I1 q1 (fun u s2 z H3 I3 r3 q => ?_) n2) n1) n1 (by rw [n2]; rfl)) hdb)
  obtain ⟨q0, xs, k, rfl, rfl, hs, h0, h1, q⟩ := q
  obtain rfl : v = .ref q0 := r1
  obtain ⟨tk, rfl⟩ := r3
  rcases hs with hs | hs
  · obtain ⟨its, rv, pl, hz⟩ := I3.list hs
    obtain ⟨o, ho, hcl, cc, hd⟩ := (show s2.heap.IsList q0 its.toArray from pl.isList)
    refine call_cb (P := fun us => us = its) h0 h1 (fun A' Q E' hA hq => ?_) (fun us e => ?_) fun h' tk us hk e => ?_
    · exact wpAny_collect_seq q0 (.inl rfl) ho hcl hd (fun h' hk => by have := hq h' s2.toks its hk rfl; simpa using this) (by rw [List.size_toArray, ← rv.length]; exact hz)
    · subst e; rw [← rv.length]; exact hz
    · subst e; exact cb_it I3 hk rv h0 h1 q
  · obtain ⟨its, rv, pl, hz⟩ := I3.tuple hs
    obtain ⟨o, ho, hcl, cc, hd⟩ := (show s2.heap.IsTuple q0 its.toArray from pl)
    refine call_cb (P := fun us => us = its) h0 h1 (fun A' Q E' hA hq => ?_) (fun us e => ?_) fun h' tk us hk e => ?_
    · exact wpAny_collect_seq q0 (.inr rfl) ho hcl hd (fun h' hk => by have := hq h' s2.toks its hk rfl; simpa using this) (by rw [List.size_toArray, ← rv.length]; exact hz)
    · subst e; rw [← rv.length]; exact hz
    · subst e; exact cb_it I3 hk rv h0 h1 q
end
end Cb

/-! Ws8: targets, what is walked, comprehensions. -/
namespace Ws
open PySem PySem.Spec PyProof.Rows L2

/-! ### wiped slots -/
theorem wipe_get {σ : L2.St} {j : Nat} : ∀ {vs : List Nat}, (wipe σ vs)[j]? = if j ∈ vs ∧ j < σ.length then some none else σ[j]?
  | [] => by simp [wipe]
  | v :: vs => by
    unfold wipe
    have ih := wipe_get (σ := σ) (j := j) (vs := vs)
    by_cases h : v = j
    · subst h
      by_cases hl : v < σ.length
      · rw [List.getElem?_set_self (by rw [wipe_length]; exact hl), if_pos ⟨List.mem_cons_self, hl⟩]
      · rw [List.getElem?_eq_none (by rw [List.length_set, wipe_length]; omega), if_neg (fun z => hl z.2), List.getElem?_eq_none (by omega)]
    · rw [List.getElem?_set_ne h, ih]
      have hm : (j ∈ v :: vs ∧ j < σ.length) ↔ (j ∈ vs ∧ j < σ.length) := by
        rw [List.mem_cons]
        constructor
        · rintro ⟨h1 | h1, h2⟩
          · exact absurd h1.symm h
          · exact ⟨h1, h2⟩
        · rintro ⟨h1, h2⟩
          exact ⟨.inr h1, h2⟩
      simp only [hm]
theorem wipeE_get {env : Env} {j : Nat} : ∀ {vs : List Nat}, (wipeE env vs)[j]? = if j ∈ vs ∧ j < env.length then some none else env[j]?
  | [] => by simp [wipeE]
  | v :: vs => by
    unfold wipeE
    have ih := wipeE_get (env := env) (j := j) (vs := vs)
    have hlen : ∀ vs, (wipeE env vs).length = env.length := by
      intro vs
      induction vs with
      | nil => rfl
      | cons a l ih => unfold wipeE; rw [List.length_set, ih]
    by_cases h : v = j
    · subst h
      by_cases hl : v < env.length
      · rw [List.getElem?_set_self (by rw [hlen]; exact hl), if_pos ⟨List.mem_cons_self, hl⟩]
      · rw [List.getElem?_eq_none (by rw [List.length_set, hlen]; omega), if_neg (fun z => hl z.2), List.getElem?_eq_none (by omega)]
    · rw [List.getElem?_set_ne h, ih]
      have hm : (j ∈ v :: vs ∧ j < env.length) ↔ (j ∈ vs ∧ j < env.length) := by
        rw [List.mem_cons]
        constructor
        · rintro ⟨h1 | h1, h2⟩
          · exact absurd h1.symm h
          · exact ⟨h1, h2⟩
        · rintro ⟨h1, h2⟩
          exact ⟨.inr h1, h2⟩
      simp only [hm]
theorem wipeE_length {env : Env} : ∀ vs, (wipeE env vs).length = env.length
  | [] => rfl
  | a :: l => by unfold wipeE; rw [List.length_set, wipeE_length l]
theorem EnvE.wipe {K : PySem.W.Frag} {R : Addr → Prop} {a : Addr} {H : Hp} {σ : L2.St} {env : Env} (e : EnvE K R a H σ env) (vs : List Nat) : EnvE K R a H (wipe σ vs) (wipeE env vs) := by
  refine ⟨by rw [wipe_length, wipeE_length]; exact e.len, fun i x h => ?_⟩
  rw [wipeE_get] at h
  rw [wipe_get]
  split at h
  · cases h
  · rename_i hn
    rw [if_neg (by rw [e.len]; exact hn)]
    exact e.get i x h
theorem wipe_set {σ : L2.St} {vs : List Nat} {i : Nat} {v : Option V} (h : i ∈ vs) : L2.wipe (σ.set i v) vs = L2.wipe σ vs := by
  apply List.ext_getElem?
  intro j
  rw [wipe_get, wipe_get, List.length_set]
  by_cases hj : j ∈ vs ∧ j < σ.length
  · rw [if_pos hj, if_pos hj]
  · rw [if_neg hj, if_neg hj]
    by_cases e : i = j
    · subst e
      have : ¬ i < σ.length := fun z => hj ⟨h, z⟩
      rw [List.getElem?_eq_none (by rw [List.length_set]; omega), List.getElem?_eq_none (by omega)]
    · rw [List.getElem?_set_ne e]
theorem wipe_wipe {σ : L2.St} {vs : List Nat} : L2.wipe (L2.wipe σ vs) vs = L2.wipe σ vs := by
  apply List.ext_getElem?
  intro j
  rw [wipe_get, wipe_get, wipe_length]
  by_cases hj : j ∈ vs ∧ j < σ.length
  · rw [if_pos hj, if_pos hj]
  · rw [if_neg hj, if_neg hj]

/-! ### targets -/
def gNms : List Nat → TGs
  | [] => gNil
  | i :: l => gCons (gName i) (gNms l)
def gTg (K : PySem.W.Frag) : Tg → TG
  | .nm i => gName i
  | .tp l => fun v σ H Q => gTup K l.length (gNms l) v σ H Q ∨ gUnl K l.length (gNms l) v σ H Q
  | .ns l j => gTup K 2 (gCons (gTup K l.length (gNms l)) (gCons (gName j) gNil))
theorem pg_or {X : Cx} {e : Expr} {g1 g2 : TG} (h1 : PG X e g1) (h2 : PG X e g2) : PG X e (fun v σ H Q => g1 v σ H Q ∨ g2 v σ H Q) := ⟨fun pins s σ H v u Q I r h => h.elim (h1.run pins s σ H v u Q I r) (h2.run pins s σ H v u Q I r)⟩
section
variable {X : Cx} {N : List Str} {sc : Scope}
/-- the names that may be stored here -/
def Sto (X : Cx) (N : List Str) (sc : Scope) : Prop := X.N = N ∧ X.N.Nodup ∧ ∀ x, loc sc x = true → L2.Loc X.env.scope x ∧ (X.fn x = true ∨ X.env.scope.names.lookup x = some .local)
theorem pgs_ev (h : Sto X N sc) : ∀ (es : List Expr) (l : List Nat), chkTg.go N sc es l = true → PGs X es (gNms l) ∧ (assignEach es X.env).length = l.length ∧ (assignEach es X.env).findIdx? (·.1) = none
  | [], [], _ => ⟨pgs_nil, rfl, rfl⟩
  | e :: es, i :: l, hc => by
    cases e with
    | Name x p =>
      simp only [chkTg.go, Bool.and_eq_true] at hc
      obtain ⟨h1, h2, h3⟩ := pgs_ev h es l hc.2
      obtain ⟨hl, hf⟩ := h.2.2 x hc.1.2
      have hi : X.N[i]? = some x := by rw [h.1]; simpa using hc.1.1
      have e1 : assignEach (.Name x p :: es) X.env = (false, assign (.Name x p) X.env) :: assignEach es X.env := rfl
      refine ⟨pgs_cons (pg_name h.2.1 hi hl hf) h1, ?_, ?_⟩
      · rw [e1, List.length_cons, h2, List.length_cons]
      · rw [e1, List.findIdx?_cons]
        simp [h3]
    | _ => simp [chkTg.go] at hc
  | [], _ :: _, hc => by simp [chkTg.go] at hc
  | e :: _, [], hc => by cases e <;> simp [chkTg.go] at hc
theorem pg_ev (hc : X.calm = true) (h : Sto X N sc) {e : Expr} {t : Tg} (hk : chkTg N sc e t = true) : PG X e (gTg X.K t) := by
  cases e with
  | Name x p =>
    cases t with
    | nm i =>
      simp only [chkTg, Bool.and_eq_true] at hk
      obtain ⟨hl, hf⟩ := h.2.2 x hk.2
      exact pg_name h.2.1 (by rw [h.1]; simpa using hk.1) hl hf
    | tp l => simp [chkTg] at hk
    | ns l j => simp [chkTg] at hk
  | Tuple es k p =>
    cases t with
    | nm i => simp [chkTg] at hk
    | tp l =>
      simp only [chkTg] at hk
      obtain ⟨h1, h2, h3⟩ := pgs_ev h es l hk
      exact pg_or (pg_tup hc h1 h2 h3) (pg_unl hc h1 h2 h3)
    | ns l j =>
      unfold chkTg at hk
      split at hk
      · rename_i heq _; cases heq
      · rename_i heq; cases heq
      · rename_i es' k' p' x px k2 p2 l' j' heq1 heq2
        cases heq1
        cases heq2
        simp only [Bool.and_eq_true] at hk
        obtain ⟨h1, h2, h3⟩ := pgs_ev h es' l hk.1.1
        obtain ⟨hl, hf⟩ := h.2.2 x hk.2
        have hi : X.N[j]? = some x := by rw [h.1]; simpa using hk.1.2
        exact pg_tup hc (pgs_cons (pg_tup hc h1 h2 h3) (pgs_cons (pg_name h.2.1 hi hl hf) pgs_nil)) rfl rfl
      · cases hk
  | _ => cases t <;> simp [chkTg] at hk
end
section
variable {K : PySem.W.Frag} {R : Addr → Prop} {a : Addr} {H : Hp} {σ : L2.St} {env env' : Env}
theorem nms_ok {Q : L2.St → Hp → Prop} : ∀ (l : List Nat) {vs : List V} {xs : List PV} {σ : L2.St} {env : Env}, EnvE K R a H σ env → Reps K R a H vs xs → xs.length = l.length →
    (∀ σ', EnvE K R a H σ' ((l.zip xs).foldl (fun e p => e.set p.1 (some p.2)) env) → (∀ us, (∀ i ∈ l, i ∈ us) → L2.wipe σ' us = L2.wipe σ us) → Q σ' H) → gNms l vs σ H Q
  | [], vs, xs, σ, env, e, r, hl, q => by
    cases r with
    | nil => exact ⟨rfl, q σ e fun _ _ => rfl⟩
    | cons _ _ => simp at hl
  | i :: l, vs, xs, σ, env, e, r, hl, q => by
    cases r with
    | nil => simp at hl
    | cons r rs =>
      refine ⟨_, _, rfl, ?_⟩
      show gNms l _ (σ.set i (some _)) H Q
      refine nms_ok l (e.set r.toE i) rs (by simpa using hl) fun σ' e' hw => q σ' e' fun us hu => ?_
      rw [hw us fun j hj => hu j (List.mem_cons_of_mem _ hj), wipe_set (hu i List.mem_cons_self)]
theorem bind_ok {t : Tg} {v : V} {x : PV} {Q : L2.St → Hp → Prop} (e : EnvE K R a H σ env) (r : RepE K R a H v x) (hb : bindT t x env = some env')
    (q : ∀ σ', EnvE K R a H σ' env' → (∀ us, (∀ i ∈ tgIx t, i ∈ us) → L2.wipe σ' us = L2.wipe σ us) → Q σ' H) : gTg K t v σ H Q := by
  cases t with
  | nm i =>
    simp only [bindT] at hb
    split at hb
    · cases hb
    · simp only [Option.some.injEq] at hb
      subst hb
      exact q _ (e.set r i) fun us hu => wipe_set (hu i (by simp [tgIx]))
  | tp l =>
    simp only [bindT] at hb
    split at hb
    · rename_i xs
      split at hb
      · rename_i hl
        simp only [Option.some.injEq] at hb
        subst hb
        obtain ⟨p, vs, rfl, h1, n1, rs⟩ := r.tup
        refine .inl ⟨p, vs, rfl, SqT.of h1, by rw [rs.length]; exact hl, ?_⟩
        exact nms_ok l e rs hl fun σ' e' hw => q σ' e' hw
      · cases hb
    · rename_i xs
      split at hb
      · rename_i hl
        simp only [Option.some.injEq] at hb
        subst hb
        cases (show Rep K R a H v (.lst xs) from r) with
        | lst h1 n1 q1 rs =>
          refine .inr ⟨_, _, rfl, SqL.of h1, by rw [rs.length]; exact hl, ?_⟩
          exact nms_ok l e rs hl fun σ' e' hw => q σ' e' hw
      · cases hb
    · cases hb
  | ns l j =>
    simp only [bindT] at hb
    split at hb
    · rename_i xs y
      split at hb
      · rename_i hl
        simp only [Option.some.injEq] at hb
        subst hb
        obtain ⟨p, vs, rfl, h1, n1, rs⟩ := r.tup
        cases rs with
        | cons r0 rs =>
          cases rs with
          | cons r1 rs =>
            cases rs with
            | nil =>
              obtain ⟨p2, vs2, rfl, h2, n2, rs2⟩ := r0.toE.tup
              refine ⟨p, _, rfl, SqT.of h1, rfl, _, _, rfl, p2, vs2, rfl, SqT.of h2, by rw [rs2.length]; exact hl, ?_⟩
              refine nms_ok l e rs2 hl fun σ' e' hw => ⟨_, _, rfl, rfl, q _ (e'.set r1.toE j) fun us hu => ?_⟩
              rw [wipe_set (hu j (by simp [tgIx])), hw us fun i hi => hu i (by simp [tgIx, hi])]
      · cases hb
    · cases hb
end

/-! ### what is walked -/
inductive ItOk (K : PySem.W.Frag) (R : Addr → Prop) (a : Addr) (H : Hp) (ok : Bool) : It → List PV → Prop where
  | lst {p : Addr} {vs : List V} {xs : List PV} : H p = some (.lst vs) → p ≠ a → (ok = true ∨ R p) → Reps K R a H vs xs → ItOk K R a H ok (Itl K p) xs
  | tup {p : Addr} {vs : List V} {xs : List PV} : H p = some (.tup vs) → p ≠ a → Reps K R a H vs xs → ItOk K R a H ok (Itt K p) xs
  | rng (lo : Int) (n : Nat) : ItOk K R a H ok (Itr lo n) ((List.range n).map fun (k : Nat) => PV.int (lo + (k : Int)))
  | zipL {p p2 : Addr} {vs ws : List V} {xs ys : List PV} : H p = some (.lst vs) → p ≠ a → (ok = true ∨ R p) → H p2 = some (.lst ws) → p2 ≠ a → (ok = true ∨ R p2) → Reps K R a H vs xs → Reps K R a H ws ys → ItOk K R a H ok (Itz K p p2) (zipV xs ys)
  | zipT {p p2 : Addr} {vs ws : List V} {xs ys : List PV} : H p = some (.tup vs) → p ≠ a → H p2 = some (.tup ws) → p2 ≠ a → Reps K R a H vs xs → Reps K R a H ws ys → ItOk K R a H ok (RZ.ItzT K p p2) (zipV xs ys)
  | comb {vs : List V} {xs : List PV} {k : Int} {l : List PV} : Reps K R a H vs xs → combV xs k = some l → ItOk K R a H ok (Cb.ItC vs k.toNat) l
  | enum {p : Addr} {vs : List V} {xs : List PV} : H p = some (.lst vs) → p ≠ a → (ok = true ∨ R p) → Reps K R a H vs xs → ItOk K R a H ok (Ite K p) (enumV xs)
/-- what a turn leaves -/
def NewOr (H H' : Hp) : Prop := H' = H ∨ ∃ p l, H p = none ∧ H' = upd H p (.tup l)
theorem NewOr.keep {a : Addr} {H H' : Hp} (n : NewOr H H') : Keep a H H' := by
  rcases n with rfl | ⟨p, l, h, rfl⟩
  · exact Keep.refl
  · exact Keep.upd h
theorem NewOr.srel {K : PySem.W.Frag} {R : Addr → Prop} {a : Addr} {H H' : Hp} {S : Strm} (n : NewOr H H') (s : SRel K R a H S) : SRel K R a H' S := by
  rcases n with rfl | ⟨p, l, h, rfl⟩
  · exact s
  · exact s.upd h
/-- zip of two tuples -/
theorem walk_zipT {K : PySem.W.Frag} {p p2 : Addr} {xs ys : List V} {n : Nat} (hn : n = min xs.length ys.length) : Walk (RZ.ItzT K p p2) n (fun H => SqT K H p xs ∧ SqT K H p2 ys) (YPair (fun i => xs[i]?) (fun i => ys[i]?)) := by
  subst hn
  refine ⟨fun i _ hi q => ?_, fun _ q => ⟨xs, ys, q.1, q.2, by omega⟩, fun i H v H' _ q y => ?_⟩
  · have h1 : i < xs.length := by omega
    have h2 : i < ys.length := by omega
    exact ⟨xs, ys, xs[i], ys[i], q.1, q.2, by simp [h1], by simp [h2]⟩
  · obtain ⟨T, x, z, h1, h2, h3, h4, h5⟩ := y
    exact ⟨T, x, z, h1, h2, h3, h4 xs q.1, h5 ys q.2⟩
theorem zipV_get {xs ys : List PV} {i : Nat} {x y : PV} (hx : xs[i]? = some x) (hy : ys[i]? = some y) : (zipV xs ys)[i]? = some (.tup [x, y]) := by
  unfold zipV
  have e : (xs.zip ys)[i]? = some (x, y) := List.getElem?_zip_eq_some.mpr ⟨hx, hy⟩
  rw [List.getElem?_map, e]
  rfl
/-! combinations -/
def sqC (n : Nat) (s : Option (List Nat)) : Nat → Option (List Nat)
  | 0 => s
  | i + 1 => (sqC n s i).bind (nextC n)
theorem sqC_shift (n : Nat) (s : Option (List Nat)) : ∀ i, sqC n s (i + 1) = sqC n (s.bind (nextC n)) i
  | 0 => rfl
  | i + 1 => by
    show (sqC n s (i + 1)).bind (nextC n) = (sqC n (s.bind (nextC n)) i).bind (nextC n)
    rw [sqC_shift n s i]
theorem sqC_none (n : Nat) : ∀ i, sqC n none i = none
  | 0 => rfl
  | i + 1 => by
    show (sqC n none i).bind (nextC n) = none
    rw [sqC_none n i]; rfl
theorem cbFrom_at {n : Nat} : ∀ (f : Nat) (s : Option (List Nat)) (js : List (List Nat)), cbFrom n f s = some js → ∀ i, sqC n s i = js[i]?
  | f, none, js, h, i => by
    have e : js = [] := by cases f <;> (simp only [cbFrom, Option.some.injEq] at h; exact h.symm)
    subst e
    rw [sqC_none]; rfl
  | 0, some j, js, h, i => by simp [cbFrom] at h
  | f + 1, some j, js, h, i => by
    simp only [cbFrom, Option.map_eq_some_iff] at h
    obtain ⟨ks, h1, rfl⟩ := h
    cases i with
    | zero => rfl
    | succ i =>
      rw [sqC_shift]
      exact cbFrom_at f (nextC n j) ks h1 i
theorem cbSeq_sq (n r : Nat) : ∀ i, Cb.cbSeq n r i = sqC n (if r > n then none else some (List.range r)) i
  | 0 => rfl
  | i + 1 => by
    show (Cb.cbSeq n r i).bind (Cb.nextC n) = (sqC n _ i).bind (nextC n)
    rw [cbSeq_sq n r i]; rfl
theorem combV_at {xs : List PV} {k : Int} {l : List PV} (h : combV xs k = some l) : ∃ js : List (List Nat), l = js.map (fun j => PV.tup (j.map fun i => xs.getD i .non)) ∧ ∀ i, Cb.cbSeq xs.length k.toNat i = js[i]? := by
  unfold combV at h
  split at h
  · simp only [Option.map_eq_some_iff] at h
    obtain ⟨js, h1, rfl⟩ := h
    exact ⟨js, rfl, fun i => by rw [cbSeq_sq]; exact cbFrom_at _ _ _ h1 i⟩
  · cases h
theorem Reps.getD {K : PySem.W.Frag} {R : Addr → Prop} {a : Addr} {H : Hp} {vs : List V} {xs : List PV} (r : Reps K R a H vs xs) (k : Nat) : Rep K R a H (vs.getD k .non) (xs.getD k .non) := by
  rw [List.getD_eq_getElem?_getD, List.getD_eq_getElem?_getD]
  cases h : xs[k]? with
  | none =>
    have : vs[k]? = none := by
      rw [List.getElem?_eq_none_iff] at h ⊢
      rw [r.length]; exact h
    rw [this]; exact .non
  | some x =>
    obtain ⟨v, h1, h2⟩ := r.get h
    rw [h1]; exact h2
theorem Reps.picks {K : PySem.W.Frag} {R : Addr → Prop} {a : Addr} {H : Hp} {vs : List V} {xs : List PV} (r : Reps K R a H vs xs) : ∀ j : List Nat, Reps K R a H (j.map fun k => vs.getD k .non) (j.map fun k => xs.getD k .non)
  | [] => .nil
  | k :: j => .cons (r.getD k) (Reps.picks r j)
theorem enumV_get {xs : List PV} {i : Nat} {x : PV} (hx : xs[i]? = some x) : (enumV xs)[i]? = some (.tup [.int i, x]) := by
  unfold enumV
  have hi : i < xs.length := (List.getElem?_eq_some_iff.mp hx).1
  rw [List.getElem?_map, List.getElem?_range hi, Option.map_some, List.getD_eq_getElem?_getD, hx]
  rfl
theorem ItOk.walk {K : PySem.W.Frag} {R : Addr → Prop} {a : Addr} {H : Hp} {ok : Bool} {J : It} {xs : List PV} (h : ItOk K R a H ok J xs) : ∃ G Y, Walk J xs.length G Y ∧
    (∀ H', (∀ b o, H b = some o → b ≠ a → (ok = true ∨ R b ∨ ∃ vs, o = .tup vs) → H' b = some o) → G H') ∧
    ∀ (R' : Addr → Prop) (H' : Hp), Fresh R' a H' → (∀ vs xs, Reps K R a H vs xs → Reps K R' a H' vs xs) → ∀ i x H'', i < xs.length → Y i H' x H'' → NewOr H' H'' ∧ ∃ y, xs[i]? = some y ∧ Rep K R' a H'' x y := by
  cases h with
  | @lst p vs _ h1 h2 h3 h4 =>
    refine ⟨_, _, by rw [← h4.length]; exact walk_list (K := K) (a := p) (xs := vs), fun H' k => SqL.of (k p _ h1 h2 (h3.elim .inl fun z => .inr (.inl z))), fun R' H' f tr i x H'' hi y => ?_⟩
    obtain ⟨rfl, hx⟩ := y
    obtain ⟨z, hz, rz⟩ := (tr _ _ h4).getV hx
    exact ⟨.inl rfl, z, hz, rz⟩
  | @tup p vs _ h1 h2 h4 =>
    refine ⟨_, _, by rw [← h4.length]; exact walk_tup (K := K) (a := p) (xs := vs), fun H' k => SqT.of (k p _ h1 h2 (.inr (.inr ⟨_, rfl⟩))), fun R' H' f tr i x H'' hi y => ?_⟩
    obtain ⟨rfl, hx⟩ := y
    obtain ⟨z, hz, rz⟩ := (tr _ _ h4).getV hx
    exact ⟨.inl rfl, z, hz, rz⟩
  | rng lo n =>
    have e : ((List.range n).map fun (k : Nat) => PV.int (lo + (k : Int))).length = n := by simp
    refine ⟨_, _, by rw [e]; exact walk_range (lo := lo) (n := n), fun H' k => trivial, fun R' H' f tr i x H'' hi y => ?_⟩
    obtain ⟨rfl, rfl⟩ := y
    rw [e] at hi
    exact ⟨.inl rfl, _, by rw [List.getElem?_map, List.getElem?_range hi]; rfl, .int _⟩
  | @zipL p p2 vs ws xs ys h1 h2 h3 h1' h2' h3' h4 h4' =>
    have e : (zipV xs ys).length = min vs.length ws.length := by unfold zipV; rw [List.length_map, List.length_zip, h4.length, h4'.length]
    refine ⟨_, _, walk_zip (K := K) (a := p) (b := p2) (xs := vs) (ys := ws) e, fun H' k => ⟨SqL.of (k p _ h1 h2 (h3.elim .inl fun z => .inr (.inl z))), SqL.of (k p2 _ h1' h2' (h3'.elim .inl fun z => .inr (.inl z)))⟩, fun R' H' f tr i x H'' hi y => ?_⟩
    obtain ⟨Tt, u, w, rfl, hT, rfl, hu, hw⟩ := y
    obtain ⟨z, hz, rz⟩ := (tr _ _ h4).getV hu
    obtain ⟨z', hz', rz'⟩ := (tr _ _ h4').getV hw
    exact ⟨.inr ⟨Tt, _, hT, rfl⟩, _, zipV_get hz hz', .tup upd_same (f.ne hT) (.cons (rz.keep (Keep.upd hT)) (.cons (rz'.keep (Keep.upd hT)) .nil))⟩
  | @zipT p p2 vs ws xs ys h1 h2 h1' h2' h4 h4' =>
    have e : (zipV xs ys).length = min vs.length ws.length := by unfold zipV; rw [List.length_map, List.length_zip, h4.length, h4'.length]
    refine ⟨_, _, walk_zipT (K := K) (p := p) (p2 := p2) (xs := vs) (ys := ws) e, fun H' k => ⟨SqT.of (k p _ h1 h2 (.inr (.inr ⟨_, rfl⟩))), SqT.of (k p2 _ h1' h2' (.inr (.inr ⟨_, rfl⟩)))⟩, fun R' H' f tr i x H'' hi y => ?_⟩
    obtain ⟨Tt, u, w, rfl, hT, rfl, hu, hw⟩ := y
    obtain ⟨z, hz, rz⟩ := (tr _ _ h4).getV hu
    obtain ⟨z', hz', rz'⟩ := (tr _ _ h4').getV hw
    exact ⟨.inr ⟨Tt, _, hT, rfl⟩, _, zipV_get hz hz', .tup upd_same (f.ne hT) (.cons (rz.keep (Keep.upd hT)) (.cons (rz'.keep (Keep.upd hT)) .nil))⟩
  | @comb vs xs k l h1 h2 =>
    obtain ⟨js, rfl, hs⟩ := combV_at h2
    have hl := h1.length
    refine ⟨fun _ => True, fun i H v H' => ∃ (Tt : Addr) (j : List Nat), v = .ref Tt ∧ H Tt = none ∧ H' = upd H Tt (.tup (j.map fun k => vs.getD k .non)) ∧ js[i]? = some j, ⟨fun i H hi _ => ?_, fun H _ => ?_, fun i H v H' hi _ y => ?_⟩, fun _ _ => trivial, fun R' H' f tr i x H'' hi y => ?_⟩
    · rw [List.length_map] at hi
      exact ⟨_, by rw [hl, hs i]; exact List.getElem?_eq_getElem hi⟩
    · show Cb.cbSeq vs.length k.toNat _ = none
      rw [hl, hs]
      simp
    · obtain ⟨Tt, j, e1, e2, e3, e4⟩ := y
      rw [hl, hs] at e4
      exact ⟨Tt, j, e1, e2, e3, e4⟩
    · obtain ⟨Tt, j, rfl, hT, rfl, hj⟩ := y
      refine ⟨.inr ⟨Tt, _, hT, rfl⟩, _, by rw [List.getElem?_map, hj]; rfl, ?_⟩
      exact .tup upd_same (f.ne hT) (((tr _ _ h1).picks j).keep (Keep.upd hT))
  | @enum p vs xs h1 h2 h3 h4 =>
    have e : (enumV xs).length = vs.length := by unfold enumV; rw [List.length_map, List.length_range, h4.length]
    refine ⟨_, _, by rw [e]; exact walk_enum (K := K) (a := p) (xs := vs), fun H' k => SqL.of (k p _ h1 h2 (h3.elim .inl fun z => .inr (.inl z))), fun R' H' f tr i x H'' hi y => ?_⟩
    obtain ⟨Tt, u, w, rfl, hT, rfl, hu, hw⟩ := y
    simp only [Option.some.injEq] at hu
    subst hu
    obtain ⟨z', hz', rz'⟩ := (tr _ _ h4).getV hw
    exact ⟨.inr ⟨Tt, _, hT, rfl⟩, _, enumV_get hz', .tup upd_same (f.ne hT) (.cons (.int _) (.cons (rz'.keep (Keep.upd hT)) .nil))⟩
end Ws

/-! Ws9: iterables, comprehensions, and every expression. -/
namespace Ws
open PySem PySem.Spec PyProof.Rows L2

section
variable {X : Cx} {tg : Expr}
def iSeq (K : PySem.W.Frag) (tl : TE) : TI := fun σ H R => tl σ H fun x H1 => (∃ a xs, x = .ref a ∧ SqL K H1 a xs ∧ R (Itl K a) H1) ∨ (∃ a xs, x = .ref a ∧ SqT K H1 a xs ∧ R (Itt K a) H1)
theorem pi_seq {l : Expr} {tl : TE} (hl : PE X l tl) : PI X tg l (iSeq X.K tl) := by
  refine ⟨fun pins s σ H R I h => ?_⟩
  refine thn (hl.run pins s σ H _ I h) fun v s1 ⟨x, H1, I1, r1, q1⟩ => ?_
  rcases q1 with ⟨a, xs, e, hq, q⟩ | ⟨a, xs, e, hq, q⟩
  · subst e
    cases r1
    obtain ⟨its, rv, p, hz⟩ := I1.list hq
    refine wpAny_pyIter_list p.isList ?_
    refine ⟨s1.heap.objs.size, [s1.heap.objs.size], _, _, H1, rfl, I1.kept (t' := s1.toks) fun b o e => Heap.get?_push_of_some _ e, turn_list a _, ⟨_, Heap.get?_push_size _ rfl, rfl, rfl⟩, fun b hb => ?_, q⟩
    have e : b = s1.heap.objs.size := by simpa using hb
    subst e
    exact I1.fpOk (Nat.le_refl _) (I1.hok.fresh (Nat.le_refl _))
  · subst e
    cases r1
    obtain ⟨its, rv, p, hz⟩ := I1.tuple hq
    refine wpAny_pyIter_tuple (show s1.heap.IsTuple a its.toArray from p) ?_
    refine ⟨s1.heap.objs.size, [s1.heap.objs.size], _, _, H1, rfl, I1.kept (t' := s1.toks) fun b o e => Heap.get?_push_of_some _ e, turn_tuple a _, ⟨_, Heap.get?_push_size _ rfl, rfl, rfl⟩, fun b hb => ?_, q⟩
    have e : b = s1.heap.objs.size := by simpa using hb
    subst e
    exact I1.fpOk (Nat.le_refl _) (I1.hok.fresh (Nat.le_refl _))
theorem _root_.L2.PI.imp {e : Expr} {t t' : TI} (h : PI X tg e t) (m : ∀ σ H Q, t' σ H Q → t σ H Q) : PI X tg e t' := ⟨fun pins s σ H Q I q => h.run pins s σ H Q I (m σ H Q q)⟩
end
section
variable {T : Tbl} {X : Cx} {n : Nat} {x y z : Expr} {a b d : CE} {pos p : Pos}
def tI (T : Tbl) (K : PySem.W.Frag) (ok : Bool) (n : Nat) (it : CI) : TI := fun σ H Rk => ∃ R a env S xs S', At K σ H R a env S ∧ itV ok (fun e S => evE T n e env S) it S = some (xs, S') ∧ ∀ J H', Keep a H H' → SRel K R a H' S' → ItOk K R a H' ok J xs → Rk J H'
theorem pi_seqV {ok : Bool} {tg : Expr} (ha : PE X x (tV T X.K n a)) : PI X tg x (tI T X.K ok n (.seq a)) := by
  refine (pi_seq ha).imp fun σ H Q hq => ?_
  obtain ⟨R, ad, env, S, xs, S', A, e1, q⟩ := hq
  simp only [itV, Option.bind_eq_some_iff] at e1
  obtain ⟨⟨v1, S1⟩, e1, e2⟩ := e1
  split at e2
  case isFalse => cases e2
  rename_i hok
  simp only [Option.map_eq_some_iff] at e2
  obtain ⟨l, h1, h2⟩ := e2
  simp only [Prod.mk.injEq] at h2
  obtain ⟨rfl, rfl⟩ := h2
  refine ⟨R, ad, env, S, v1, S1, A, e1, fun u H1 k1 s1 r1 => ?_⟩
  cases v1 with
  | tup m =>
    simp only [PV.seq?, Option.some.injEq] at h1
    subst h1
    obtain ⟨p, vs, rfl, hp, np, rs⟩ := r1.tup
    exact .inr ⟨p, vs, rfl, SqT.of hp, q _ H1 k1 s1 (.tup hp np rs)⟩
  | lst m =>
    simp only [PV.seq?, Option.some.injEq] at h1
    subst h1
    cases (show Rep _ _ _ _ _ _ from r1) with
    | lst hp np hR rs => exact .inl ⟨_, _, rfl, SqL.of hp, q _ H1 k1 s1 (.lst hp np (.inr hR) rs)⟩
  | own m =>
    simp only [PV.seq?, Option.some.injEq] at h1
    subst h1
    obtain ⟨p, vs, rfl, hp, np, rs⟩ := r1
    refine .inl ⟨_, _, rfl, SqL.of hp, q _ H1 k1 s1 (.lst hp np (.inl ?_) rs)⟩
    simpa [PV.isOwn] using hok
  | _ => simp [PV.seq?] at h1
theorem inR_of {i : Int} (h : inR i = true) : -(2 ^ 62) ≤ i ∧ i < 2 ^ 62 := by simpa [inR] using h
theorem pi_rng1V {ok : Bool} {tg : Expr} (hg : Gl X "range") (hm : X.mg "range" = none) (ha : PE X x (tV T X.K n a)) (hs : notStar x = true) : PI X tg (.Call (.Name "range" p) [x] [] pos) (tI T X.K ok n (.rng1 a)) := by
  refine (pi_range1 hg hm (pa_cons ha pa_nil (star1 hs)) (star1 hs)).imp fun σ H Q hq => ?_
  obtain ⟨R, ad, env, S, xs, S', A, e1, q⟩ := hq
  simp only [itV, Option.bind_eq_some_iff] at e1
  obtain ⟨⟨v1, S1⟩, e1, e2⟩ := e1
  split at e2
  case h_2 => cases e2
  rename_i j hj
  have hj : v1 = .int j := hj
  subst hj
  split at e2
  case isFalse => cases e2
  rename_i hr
  simp only [Option.some.injEq, Prod.mk.injEq] at e2
  obtain ⟨rfl, rfl⟩ := e2
  refine ⟨R, ad, env, S, _, S1, A, e1, fun u H1 k1 s1 r1 => ⟨j, by rw [r1.int], (inR_of hr).1, (inR_of hr).2, q _ H1 k1 s1 ?_⟩⟩
  have e : rangeV 0 j = (List.range j.toNat).map fun (k : Nat) => PV.int (0 + (k : Int)) := by unfold rangeV; rw [Int.sub_zero]
  rw [e]
  exact .rng 0 j.toNat
theorem pi_rng2V {ok : Bool} {tg : Expr} (hg : Gl X "range") (hm : X.mg "range" = none) (ha : PE X x (tV T X.K n a)) (hb : PE X y (tV T X.K n b)) (hs : notStar x = true) (hs2 : notStar y = true) : PI X tg (.Call (.Name "range" p) [x, y] [] pos) (tI T X.K ok n (.rng2 a b)) := by
  refine (pi_range2 hg hm (pa_cons ha (pa_cons hb pa_nil (star1 hs2)) (star1 hs)) (by rw [star1 hs, star1 hs2]; rfl) (star1 hs2)).imp fun σ H Q hq => ?_
  obtain ⟨R, ad, env, S, xs, S', A, e1, q⟩ := hq
  simp only [itV, Option.bind_eq_some_iff] at e1
  obtain ⟨⟨v1, S1⟩, e1, ⟨v2, S2⟩, e2, e3⟩ := e1
  split at e3
  case h_2 => cases e3
  rename_i i j hi hj
  have hi : v1 = .int i := hi
  have hj : v2 = .int j := hj
  subst hi
  subst hj
  split at e3
  case isFalse => cases e3
  rename_i hr
  rw [Bool.and_eq_true] at hr
  simp only [Option.some.injEq, Prod.mk.injEq] at e3
  obtain ⟨rfl, rfl⟩ := e3
  exact ⟨R, ad, env, S, _, S1, A, e1, fun u H1 k1 s1 r1 => ⟨R, ad, env, S1, _, S2, A.keep k1 s1, e2, fun u2 H2 k2 s2 r2 =>
    ⟨i, j, by rw [r1.int, r2.int], ⟨(inR_of hr.1).1, (inR_of hr.1).2, (inR_of hr.2).1, (inR_of hr.2).2⟩, q _ H2 (k1.trans k2) s2 (.rng i (j - i).toNat)⟩⟩⟩
theorem pe_revV {k : Nat} {p1 p2 p3 : Pos} (ha : PE X x (tV T X.K n a)) : PE X (.Subscript x (.Slice none none (some (.UnaryOp .USub (.Constant (.int 1) k p1) p2)) p3) pos) (tV T X.K (n + 1) (.rev a)) := by
  refine ⟨fun pins s σ H Q I hq => ?_⟩
  obtain ⟨R, ad, env, S, z, S', A, e1, q⟩ := hq
  simp only [evE, Option.bind_eq_some_iff] at e1
  obtain ⟨⟨v1, S1⟩, e1, e2⟩ := e1
  cases v1 with
  | tup l =>
    simp only [revV, Option.some.injEq, Prod.mk.injEq] at e2
    obtain ⟨rfl, rfl⟩ := e2
    refine (pe_revT (k := k) (p1 := p1) (p2 := p2) (p3 := p3) (pos := pos) ha).run pins s σ H Q I ⟨R, ad, env, S, _, S1, A, e1, fun u H1 k1 s1 r1 => ?_⟩
    obtain ⟨p, vs, rfl, hp, np, rs⟩ := r1.tup
    exact ⟨p, vs, rfl, SqT.of hp, fun r hr => fin_tup (A.keep k1 s1).fr s1 rs.reverse (fun u2 H2 k2 s2 r2 => q u2 H2 (k1.trans k2) s2 r2) r hr⟩
  | lst l =>
    simp only [revV, Option.some.injEq, Prod.mk.injEq] at e2
    obtain ⟨rfl, rfl⟩ := e2
    refine (pe_revL (k := k) (p1 := p1) (p2 := p2) (p3 := p3) (pos := pos) ha).run pins s σ H Q I ⟨R, ad, env, S, _, S1, A, e1, fun u H1 k1 s1 r1 => ?_⟩
    obtain ⟨p, vs, rfl, hp, rs⟩ := r1.lst (l := l) rfl
    exact ⟨p, vs, rfl, SqL.of hp, fun r hr => fin_lst (A.keep k1 s1).fr s1 rs.reverse (fun u2 H2 k2 s2 r2 => q u2 H2 (k1.trans k2) s2 r2) r hr⟩
  | own l =>
    simp only [revV, Option.some.injEq, Prod.mk.injEq] at e2
    obtain ⟨rfl, rfl⟩ := e2
    refine (pe_revL (k := k) (p1 := p1) (p2 := p2) (p3 := p3) (pos := pos) ha).run pins s σ H Q I ⟨R, ad, env, S, _, S1, A, e1, fun u H1 k1 s1 r1 => ?_⟩
    obtain ⟨p, vs, rfl, hp, rs⟩ := r1.lst (l := l) rfl
    exact ⟨p, vs, rfl, SqL.of hp, fun r hr => fin_lst (A.keep k1 s1).fr s1 rs.reverse (fun u2 H2 k2 s2 r2 => q u2 H2 (k1.trans k2) s2 r2) r hr⟩
  | _ => simp [revV] at e2
theorem reps_rg {K : PySem.W.Frag} {R : Addr → Prop} {ad : Addr} {H : Hp} (i j : Int) : Reps K R ad H (rgV i j) (rangeV i j) := by
  have key : ∀ l : List Nat, Reps K R ad H (l.map fun k : Nat => V.int (i + (k : Nat))) (l.map fun k : Nat => PV.int (i + (k : Int))) := by
    intro l
    induction l with
    | nil => exact .nil
    | cons x l ih => exact .cons (.int _) ih
  exact key _
theorem rgS_of {t : Bool} {i j : Int} {z : PV} (h : rgS t i j = some z) : RgOk i j ∧ z = if t then .tup (rangeV i j) else .lst (rangeV i j) := by
  unfold rgS at h
  split at h
  case isFalse => cases h
  rename_i hr
  simp only [Bool.and_eq_true, decide_eq_true_eq] at hr
  simp only [Option.some.injEq] at h
  exact ⟨⟨(inR_of hr.1.1).1, (inR_of hr.1.1).2, (inR_of hr.1.2).1, (inR_of hr.1.2).2, by have := hr.2; unfold LIM at this; omega⟩, h.symm⟩
theorem pe_rg1V {t : Bool} {f : Str} {p1 p2 p3 p4 : Pos} (hf : f = if t then ("tuple" : Str) else "list") (hc : X.calm = true) (hg : Gl X f) (hm : X.mg f = none) (hg2 : Gl X "range") (hm2 : X.mg "range" = none) (hb : PE X x (tV T X.K n a)) (hs : notStar x = true) :
    PE X (.Call (.Name f p1) [.Call (.Name "range" p2) [x] [] p3] [] p4) (tV T X.K (n + 1) (.rg1 t a)) := by
  have rg := prg_1 (p := p2) (pos := p3) hg2 hm2 hb (star1 hs)
  have fin : ∀ {σ : L2.St} {H : Hp} {Q : VK}, tV T X.K (n + 1) (.rg1 t a) σ H Q → (if t then tTupRg (tRg1 (tV T X.K n a)) else tLstRg (tRg1 (tV T X.K n a))) σ H Q := by
    intro σ H Q ⟨R, ad, env, S, z, S', A, e1, q⟩
    simp only [evE, Option.bind_eq_some_iff] at e1
    obtain ⟨⟨v1, S1⟩, e1, e2⟩ := e1
    unfold rgV1 at e2
    split at e2
    case h_2 => cases e2
    rename_i j hj
    have hj : v1 = .int j := hj
    subst hj
    simp only [Option.map_eq_some_iff] at e2
    obtain ⟨w, e2, e3⟩ := e2
    simp only [Prod.mk.injEq] at e3
    obtain ⟨rfl, rfl⟩ := e3
    obtain ⟨ok, rfl⟩ := rgS_of e2
    cases t with
    | true => exact ⟨R, ad, env, S, _, S1, A, e1, fun u H1 k1 s1 r1 => ⟨j, r1.int, ok, fun r hr => fin_tup (A.keep k1 s1).fr s1 (reps_rg 0 j) (fun u2 H2 k2 s2 r2 => q u2 H2 (k1.trans k2) s2 r2) r hr⟩⟩
    | false => exact ⟨R, ad, env, S, _, S1, A, e1, fun u H1 k1 s1 r1 => ⟨j, r1.int, ok, fun r hr => fin_lst (A.keep k1 s1).fr s1 (reps_rg 0 j) (fun u2 H2 k2 s2 r2 => q u2 H2 (k1.trans k2) s2 r2) r hr⟩⟩
  subst hf
  cases t with
  | true => exact (pe_tupRg hc hg hm rg).imp fun σ H Q h => fin h
  | false => exact (pe_listRg hc hg hm rg).imp fun σ H Q h => fin h
theorem pe_rg2V {t : Bool} {f : Str} {p1 p2 p3 p4 : Pos} (hf : f = if t then ("tuple" : Str) else "list") (hc : X.calm = true) (hg : Gl X f) (hm : X.mg f = none) (hg2 : Gl X "range") (hm2 : X.mg "range" = none) (ha : PE X x (tV T X.K n a)) (hb : PE X y (tV T X.K n b)) (hs : notStar x = true) (hs2 : notStar y = true) :
    PE X (.Call (.Name f p1) [.Call (.Name "range" p2) [x, y] [] p3] [] p4) (tV T X.K (n + 1) (.rg2 t a b)) := by
  have rg := prg_2 (p := p2) (pos := p3) hg2 hm2 ha hb (star1 hs) (star1 hs2) (by rw [star1 hs2]; rfl)
  have fin : ∀ {σ : L2.St} {H : Hp} {Q : VK}, tV T X.K (n + 1) (.rg2 t a b) σ H Q → (if t then tTupRg (tRg2 (tV T X.K n a) (tV T X.K n b)) else tLstRg (tRg2 (tV T X.K n a) (tV T X.K n b))) σ H Q := by
    intro σ H Q ⟨R, ad, env, S, z, S', A, e1, q⟩
    simp only [evE, Option.bind_eq_some_iff] at e1
    obtain ⟨⟨v1, S1⟩, e1, ⟨v2, S2⟩, e2, e3⟩ := e1
    unfold rgV2 at e3
    split at e3
    case h_2 => cases e3
    rename_i i j hi hj
    have hi : v1 = .int i := hi
    have hj : v2 = .int j := hj
    subst hi
    subst hj
    simp only [Option.map_eq_some_iff] at e3
    obtain ⟨w, e3, e4⟩ := e3
    simp only [Prod.mk.injEq] at e4
    obtain ⟨rfl, rfl⟩ := e4
    obtain ⟨ok, rfl⟩ := rgS_of e3
    cases t with
    | true => exact ⟨R, ad, env, S, _, S1, A, e1, fun u H1 k1 s1 r1 => ⟨R, ad, env, S1, _, S2, A.keep k1 s1, e2, fun u2 H2 k2 s2 r2 => ⟨i, j, r1.int, r2.int, ok, fun r hr => fin_tup ((A.keep k1 s1).keep k2 s2).fr s2 (reps_rg i j) (fun u3 H3 k3 s3 r3 => q u3 H3 ((k1.trans k2).trans k3) s3 r3) r hr⟩⟩⟩
    | false => exact ⟨R, ad, env, S, _, S1, A, e1, fun u H1 k1 s1 r1 => ⟨R, ad, env, S1, _, S2, A.keep k1 s1, e2, fun u2 H2 k2 s2 r2 => ⟨i, j, r1.int, r2.int, ok, fun r hr => fin_lst ((A.keep k1 s1).keep k2 s2).fr s2 (reps_rg i j) (fun u3 H3 k3 s3 r3 => q u3 H3 ((k1.trans k2).trans k3) s3 r3) r hr⟩⟩⟩
  subst hf
  cases t with
  | true => exact (pe_tupRg hc hg hm rg).imp fun σ H Q h => fin h
  | false => exact (pe_listRg hc hg hm rg).imp fun σ H Q h => fin h
theorem pe_gcdV {p1 : Pos} (hg : Gl X "gcd") (hm : X.mg "gcd" = some (.builtin "math.gcd")) (ha : PE X x (tV T X.K n a)) (hb : PE X y (tV T X.K n b)) (hs : notStar x = true) (hs2 : notStar y = true) :
    PE X (.Call (.Name "gcd" p1) [x, y] [] pos) (tV T X.K (n + 1) (.gcd a b)) := by
  refine (pe_callBfun cr_gcd hg hm (pa_cons ha (pa_cons hb pa_nil (star1 hs2)) (star1 hs)) (by decide) (star1 hs) (by rw [star1 hs2]; rfl)).imp fun σ H Q hq => ?_
  obtain ⟨R, ad, env, S, w, S', A, e1, q⟩ := hq
  simp only [evE, Option.bind_eq_some_iff] at e1
  obtain ⟨⟨v1, S1⟩, e1, ⟨v2, S2⟩, e2, e3⟩ := e1
  unfold gcdV at e3
  split at e3
  case h_2 => cases e3
  rename_i i j h1 h2
  have h1 : v1 = .int i := h1
  have h2 : v2 = .int j := h2
  subst h1 h2
  simp only [Option.some.injEq, Prod.mk.injEq] at e3
  obtain ⟨rfl, rfl⟩ := e3
  exact ⟨R, ad, env, S, _, S1, A, e1, fun u H1 k1 s1 r1 => ⟨R, ad, env, S1, _, S2, A.keep k1 s1, e2, fun u2 H2 k2 s2 r2 => ⟨i, j, by rw [r1.int, r2.int], q _ H2 (k1.trans k2) s2 (Rep.toE (.int _))⟩⟩⟩
theorem RepE.lstR {K : PySem.W.Frag} {R : Addr → Prop} {a : Addr} {H : Hp} {v : V} {x : PV} {l : List PV} {ok : Bool} (r : RepE K R a H v x) (e : x.lst? = some l) (h : ok = true ∨ x.isOwn = false) : ∃ p vs, v = .ref p ∧ H p = some (.lst vs) ∧ p ≠ a ∧ (ok = true ∨ R p) ∧ Reps K R a H vs l := by
  cases x with
  | lst m =>
    simp only [PV.lst?, Option.some.injEq] at e
    subst e
    cases (show Rep _ _ _ _ _ _ from r) with
    | lst h n q t => exact ⟨_, _, rfl, h, n, .inr q, t⟩
  | own m =>
    simp only [PV.lst?, Option.some.injEq] at e
    subst e
    obtain ⟨l, vs, e1, h1, n, q⟩ := r
    refine ⟨l, vs, e1, h1, n, ?_, q⟩
    rcases h with h | h
    · exact .inl h
    · simp [PV.isOwn] at h
  | _ => simp [PV.lst?] at e
theorem reps_intL {K : PySem.W.Frag} {R : Addr → Prop} {ad : Addr} {H : Hp} : ∀ l : List Int, Reps K R ad H (l.map V.int) (l.map PV.int)
  | [] => .nil
  | x :: l => .cons (.int x) (reps_intL l)
theorem pe_ssetV {p1 p2 p3 p4 : Pos} (hc : X.calm = true) (hg : Gl X "sorted") (hm : X.mg "sorted" = none) (hg2 : Gl X "set") (hm2 : X.mg "set" = none) (hb : PE X x (tV T X.K n a)) (hs : notStar x = true) :
    PE X (.Call (.Name "sorted" p1) [.Call (.Name "set" p2) [x] [] p3] [] p4) (tV T X.K (n + 1) (.sset a)) := by
  have inner := pe_callTy (p := p2) (pos := p3) (cr_setI hc) hg2 hm2 (show bootBuiltins "set" = some (.type "set") by decide +kernel) (pa_cons hb pa_nil (star1 hs)) (by decide) (by decide) (star1 hs) rfl
  refine (pe_callB (p := p1) (pos := p4) (cr_sortedSet hc) hg hm (biBoot .sorted) (pa_cons inner pa_nil (by rfl)) (by decide) (by decide) (by rfl) rfl).imp fun σ H Q hq => ?_
  obtain ⟨R, ad, env, S, z, S', A, e1, q⟩ := hq
  simp only [evE, Option.bind_eq_some_iff] at e1
  obtain ⟨⟨v1, S1⟩, e1, e2⟩ := e1
  simp only [stuV, Option.bind_eq_some_iff] at e2
  obtain ⟨ns, ⟨l, hl, hi⟩, e3⟩ := e2
  split at e3
  case isFalse => cases e3
  rename_i hlen
  simp only [Option.some.injEq, Prod.mk.injEq] at e3
  obtain ⟨rfl, rfl⟩ := e3
  refine ⟨R, ad, env, S, v1, S1, A, e1, fun u H1 k1 s1 r1 => ?_⟩
  obtain ⟨p, vs, rfl, hp, hpa, _, rs⟩ := r1.lstR (ok := true) hl (.inl rfl)
  have := ints_of hi
  subst this
  have := rs.ints
  subst this
  refine ⟨p, ns, rfl, SqL.of hp, by omega, fun p' c hp' hc' => ?_⟩
  have kk : Keep ad H1 (upd H1 p' (SetO X.w p' (fun j => decide (j ∈ ns)) c)) := Keep.upd hp'
  have f2 := (A.keep k1 s1).fr.keep kk
  refine ⟨p', _, c, rfl, upd_same, by omega, fun ms p2 h1 h2 h3 hp2 => ?_⟩
  have hms : ms = setI ns := pw_uniq h1 pw_setI fun z => by rw [h2, mem_setI, decide_eq_true_eq]
  subst hms
  exact fin_lst (xs := (setI ns).map .int) f2 (s1.upd hp') (reps_intL _) (fun u3 H3 k3 s3 r3 => q u3 H3 ((k1.trans kk).trans k3) s3 r3) p2 hp2
abbrev iZipA1 (K : PySem.W.Frag) (u u2 : V) (H1 : Hp) (R : It → Hp → Prop) : Prop := ∃ a b xs ys, u = .ref a ∧ u2 = .ref b ∧ ((SqL K H1 a xs ∧ SqL K H1 b ys ∧ R (Itz K a b) H1) ∨ (SqT K H1 a xs ∧ SqT K H1 b ys ∧ R (RZ.ItzT K a b) H1))
theorem pi_zipV {ok : Bool} {es : List Expr} {k : Nat} {tp : Pos} (hg : Gl X "zip") (hm : X.mg "zip" = none) (ha : PE X x (tV T X.K n a)) (hb : PE X y (tV T X.K n b)) (hs : notStar x = true) (hs2 : notStar y = true) : PI X (.Tuple es k tp) (.Call (.Name "zip" p) [x, y] [] pos) (tI T X.K ok n (.zip a b)) := by
  refine (RZ.pi_zipA hg hm (pa_cons ha (pa_cons hb pa_nil (star1 hs2)) (star1 hs)) (star1 hs) (by rw [star1 hs2]; rfl)).imp fun σ H Q hq => ?_
  obtain ⟨R, ad, env, S, xs, S', A, e1, q⟩ := hq
  simp only [itV, Option.bind_eq_some_iff] at e1
  obtain ⟨⟨v1, S1⟩, e1, ⟨v2, S2⟩, e2, e3⟩ := e1
  refine ⟨R, ad, env, S, v1, S1, A, e1, fun u H1 k1 s1 r1 => ⟨R, ad, env, S1, v2, S2, A.keep k1 s1, e2, fun u2 H2 k2 s2 r2 => ?_⟩⟩
  have r1 := r1.keep k2
  have gen : ∀ {ok' : Bool}, (ok = true ∨ (v1.isOwn = false ∧ v2.isOwn = false)) → (match v1.lst?, v2.lst? with | some x, some y => some (zipV x y, S2) | _, _ => none) = some (xs, S') → iZipA1 X.K u u2 H2 Q := by
    intro _ hok e
    split at e
    case h_2 => cases e
    rename_i l m hl hm
    simp only [Option.some.injEq, Prod.mk.injEq] at e
    obtain ⟨rfl, rfl⟩ := e
    obtain ⟨p1, vs, rfl, g1, g2, g3, g4⟩ := r1.lstR (ok := ok) hl (hok.elim .inl fun z => .inr z.1)
    obtain ⟨p2, ws, rfl, g1', g2', g3', g4'⟩ := r2.lstR (ok := ok) hm (hok.elim .inl fun z => .inr z.2)
    exact ⟨p1, p2, vs, ws, rfl, rfl, .inl ⟨SqL.of g1, SqL.of g1', q _ H2 (k1.trans k2) s2 (.zipL g1 g2 g3 g1' g2' g3' g4 g4')⟩⟩
  have fin : iZipA1 X.K u u2 H2 Q := by
    split at e3
    · rename_i l m hl hm
      have hl : v1 = .tup l := hl
      have hm : v2 = .tup m := hm
      subst hl
      subst hm
      simp only [Option.some.injEq, Prod.mk.injEq] at e3
      obtain ⟨rfl, rfl⟩ := e3
      obtain ⟨p1, vs, rfl, g1, g2, g4⟩ := r1.tup
      obtain ⟨p2, ws, rfl, g1', g2', g4'⟩ := r2.tup
      exact ⟨p1, p2, vs, ws, rfl, rfl, .inr ⟨SqT.of g1, SqT.of g1', q _ H2 (k1.trans k2) s2 (.zipT g1 g2 g1' g2' g4 g4')⟩⟩
    · split at e3
      case isFalse => cases e3
      rename_i hok
      exact gen (ok' := ok) (by simpa using hok) e3
  obtain ⟨p1, p2, vs, ws, rfl, rfl, f⟩ := fin
  exact ⟨p1, p2, vs, ws, rfl, f⟩
end

/-! ### the new list of a comprehension -/
section
variable {K : PySem.W.Frag} {R : Addr → Prop} {a D : Addr} {H H' : Hp}
abbrev but (R : Addr → Prop) (D : Addr) : Addr → Prop := fun b => R b ∧ b ≠ D
mutual
/-- what stood before D was new does not reach it -/
theorem Rep.toD (hD : H D = none) (k : Keep a H H') : ∀ {v : V} {x : PV}, Rep K R a H v x → Rep K (but R D) a H' v x
  | _, _, .non => .non
  | _, _, .bl b => .bl b
  | _, _, .int i => .int i
  | _, _, .str s => .str s
  | _, _, .ty n => .ty n
  | _, _, .stm => .stm
  | _, _, .tup h n r => .tup (k.1 _ _ h n) n (Reps.toD hD k r)
  | _, _, .lst h n q r => .lst (k.1 _ _ h n) n ⟨q, ne_of_none h hD⟩ (Reps.toD hD k r)
theorem Reps.toD (hD : H D = none) (k : Keep a H H') : ∀ {vs : List V} {xs : List PV}, Reps K R a H vs xs → Reps K (but R D) a H' vs xs
  | _, _, .nil => .nil
  | _, _, .cons r rs => .cons (Rep.toD hD k r) (Reps.toD hD k rs)
end
mutual
/-- what does not reach D stays when its list changes -/
theorem Rep.updD {l l' : List V} (hD : H D = some (.lst l)) : ∀ {v : V} {x : PV}, Rep K (but R D) a H v x → Rep K (but R D) a (L2.upd H D (.lst l')) v x
  | _, _, .non => .non
  | _, _, .bl b => .bl b
  | _, _, .int i => .int i
  | _, _, .str s => .str s
  | _, _, .ty n => .ty n
  | _, _, .stm => .stm
  | _, _, .tup h n r => .tup (by rw [upd_ne (ne_of h hD (fun z => by cases z))]; exact h) n (Reps.updD hD r)
  | _, _, .lst h n q r => .lst (by rw [upd_ne q.2]; exact h) n q (Reps.updD hD r)
theorem Reps.updD {l l' : List V} (hD : H D = some (.lst l)) : ∀ {vs : List V} {xs : List PV}, Reps K (but R D) a H vs xs → Reps K (but R D) a (L2.upd H D (.lst l')) vs xs
  | _, _, .nil => .nil
  | _, _, .cons r rs => .cons (Rep.updD hD r) (Reps.updD hD rs)
end
theorem RepE.toD (hD : H D = none) (k : Keep a H H') {v : V} {x : PV} (r : RepE K R a H v x) : RepE K (but R D) a H' v x := by
  cases x with
  | own xs => obtain ⟨l, vs, e, h, n, q⟩ := r; exact ⟨l, vs, e, k.1 _ _ h n, n, q.toD hD k⟩
  | _ => exact Rep.toD hD k r
theorem EnvE.toD (hD : H D = none) (k : Keep a H H') {σ : L2.St} {env : Env} (e : EnvE K R a H σ env) : EnvE K (but R D) a H' σ env := ⟨e.len, fun i x h =>
  let ⟨v, h1, h2⟩ := e.get i x h
  ⟨v, h1, h2.toD hD k⟩⟩
theorem Fresh.but (f : Fresh R a H) (k : Keep a H H') (hD : H' D ≠ none) : Fresh (but R D) a H' := ⟨fun b h => ⟨f.fc b (k.fresh h), fun e => hD (e ▸ h)⟩, fun h => f.na h.1⟩
/-- the list at D grows -/
theorem Keep.updD {l' : List V} {H0 : Hp} (hD0 : H0 D = none) (hDa : D ≠ a) (k : Keep a H0 H) : Keep a H0 (L2.upd H D (.lst l')) := by
  refine ⟨fun b o e n => ?_, fun b e => ?_, fun q r e => ?_⟩
  · rw [upd_ne (ne_of_none e hD0)]; exact k.1 b o e n
  · by_cases h : b = D
    · subst h; rw [upd_same]; exact fun z => by cases z
    · rw [upd_ne h]; exact k.2.1 b e
  · rw [upd_ne (Ne.symm hDa)]; exact k.2.2 q r e
theorem SRel.updD {l' : List V} {S : Strm} (hDa : D ≠ a) (s : SRel K (but R D) a H S) : SRel K (but R D) a (L2.upd H D (.lst l')) S := by
  cases S with
  | none => trivial
  | some t =>
    obtain ⟨scr, c, k⟩ := t
    obtain ⟨q, h1, h2, h3, h4⟩ := s
    exact ⟨q, by rw [upd_ne (Ne.symm hDa)]; exact h1, by rw [upd_ne h4.2]; exact h2, h3, h4⟩
theorem SRel.toD {S : Strm} (hD : H D = none) (s : SRel K R a H S) : SRel K (but R D) a H S := by
  cases S with
  | none => trivial
  | some t =>
    obtain ⟨scr, c, k⟩ := t
    obtain ⟨q, h1, h2, h3, h4⟩ := s
    exact ⟨q, h1, h2, h3, h4, ne_of_none h2 hD⟩
end

/-! ### comprehensions -/
section
variable {T : Tbl} {X : Cx} {n : Nat}
theorem compL_step {step : PV → Strm → Option (Option PV × Strm)} {l : List PV} {S S2 : Strm} {ys : List PV} {x : PV} {i : Nat} (h : compL step (l.drop i) S = some (ys, S2)) (hx : l[i]? = some x) :
    ∃ r S1 ys', step x S = some (r, S1) ∧ compL step (l.drop (i + 1)) S1 = some (ys', S2) ∧ ys = (match r with | some y => y :: ys' | none => ys') := by
  obtain ⟨hi, e⟩ := List.getElem?_eq_some_iff.mp hx
  have ed : l.drop i = x :: l.drop (i + 1) := by rw [List.drop_eq_getElem_cons hi, e]
  rw [ed] at h
  simp only [compL, Option.bind_eq_some_iff, Option.map_eq_some_iff] at h
  obtain ⟨⟨r, S1⟩, h1, ⟨ys', S3⟩, h2, h3⟩ := h
  simp only [Prod.mk.injEq] at h3
  obtain ⟨h3, rfl⟩ := h3
  exact ⟨r, S1, ys', h1, h2, h3.symm⟩
/-- the tests of a comprehension -/
def tIf (T : Tbl) (K : PySem.W.Frag) (n : Nat) : Option CE → TT
  | none => tYes
  | some d => tB T K n d
/-- a new list: its place is new -/
def tF (T : Tbl) (K : PySem.W.Frag) (n : Nat) (c : CE) : TE := fun σ H Q => ∃ R a env S xs S', At K σ H R a env S ∧ evE T n c env S = some (.lst xs, S') ∧
  ∀ p vs H', Keep a H H' → SRel K R a H' S' → H p = none → H' p = some (.lst vs) → Reps K (but R p) a H' vs xs → Q (.ref p) H'
theorem tV_tF {elt' : CE} {tg' : Tg} {it' : CI} {ifs' : Option CE} {own : List (Str × Nat)} {σ : L2.St} {H : Hp} {Q : VK} (hq : tV T X.K (n + 1) (.comp elt' tg' it' ifs' own) σ H Q) : tF T X.K (n + 1) (.comp elt' tg' it' ifs' own) σ H Q := by
  obtain ⟨R, ad, env, S, w, S', A, e1, q⟩ := hq
  have e0 := e1
  simp only [evE, Option.bind_eq_some_iff] at e1
  obtain ⟨⟨its, S1⟩, e1, e2⟩ := e1
  split at e2
  case isFalse => cases e2
  simp only [Option.map_eq_some_iff] at e2
  obtain ⟨⟨ys, S2⟩, e2, e3⟩ := e2
  simp only [Prod.mk.injEq] at e3
  obtain ⟨rfl, rfl⟩ := e3
  exact ⟨R, ad, env, S, ys, S2, A, e0, fun p vs H' k s hp hp' r => q _ H' k s (Rep.toE (.lst hp' (A.fr.ne hp) (A.fr.fc p hp) (r.mono (fun b h => h.1) Keep.refl)))⟩
theorem comp_ok {elt' : CE} {tg' : Tg} {it' : CI} {ifs' : Option CE} {own : List (Str × Nat)} {σ : L2.St} {H : Hp} {Q : VK} (hin : tgIn tg' (own.map (·.2)) = true) (hq : tF T X.K (n + 1) (.comp elt' tg' it' ifs' own) σ H Q) :
      tLc (tI T X.K true n it') (gTg X.K tg') (tIf T X.K n ifs') (tV T X.K n elt') (own.map (·.2)) σ H Q := by
    obtain ⟨R, ad, env, S, w, S', A, e1, q⟩ := hq
    simp only [evE, Option.bind_eq_some_iff] at e1
    obtain ⟨⟨its, S1⟩, e1, e2⟩ := e1
    split at e2
    case isFalse => cases e2
    rename_i hlen
    simp only [Option.map_eq_some_iff] at e2
    obtain ⟨⟨ys, S2⟩, e2, e3⟩ := e2
    simp only [Prod.mk.injEq, PV.lst.injEq] at e3
    obtain ⟨rfl, rfl⟩ := e3
    refine ⟨R, ad, env, S, its, S1, A, e1, fun J H1 k1 s1 io D hD => ?_⟩
    obtain ⟨G, Y, wk, hG, hY⟩ := io.walk
    have f1 := A.fr.keep k1
    have hDa : D ≠ ad := f1.ne hD
    refine lc_it wk (fun i H' => ∃ Si acc accP rest, Keep ad H1 H' ∧ SRel X.K (but R D) ad H' Si ∧ H' D = some (.lst acc) ∧ Reps X.K (but R D) ad H' acc accP ∧ acc.length ≤ i ∧
      compL (stepV (fun e env S => evE T n e env S) elt' tg' ifs' (wipeE env (own.map (·.2)))) (its.drop i) Si = some (rest, S2) ∧ accP ++ rest = ys) ?_ ?_ ?_ ?_
    · exact ⟨S1, [], [], ys, Keep.upd hD, SRel.updD hDa (s1.toD hD), upd_same, .nil, Nat.le_refl _, e2, rfl⟩
    · rintro i H' hi ⟨Si, acc, accP, rest, k2, _⟩
      exact hG H' fun b o e nb _ => k2.1 b o e nb
    · rintro i x H2 H3 hi ⟨Si, acc, accP, rest, k2, s2, d2, r2, l2, c2, p2⟩ y3
      have nD2 : H2 D ≠ none := by rw [d2]; exact fun z => by cases z
      have f2 : Fresh (but R D) ad H2 := f1.but k2 nD2
      obtain ⟨nw, y, hy, ry⟩ := hY (but R D) H2 f2 (fun vs xs r => r.toD hD k2) i x H3 hi y3
      obtain ⟨r, S3, rest', st, c3, ej⟩ := compL_step c2 hy
      simp only [stepV, Option.bind_eq_some_iff] at st
      obtain ⟨env1, hb, ⟨b, S4⟩, ht, hlast⟩ := st
      have k3 : Keep ad H2 H3 := nw.keep
      have k13 : Keep ad H1 H3 := k2.trans k3
      have en : EnvE X.K (but R D) ad H3 (wipe σ (own.map (·.2))) (wipeE env (own.map (·.2))) := ((A.en.keep k1).toD hD k13).wipe _
      refine bind_ok en ry.toE hb fun σ' en' hw => ⟨?_, ?_⟩
      · rw [hw _ fun i hi => by have := List.all_eq_true.mp hin i hi; simpa using this, wipe_wipe]
      have f3 : Fresh (but R D) ad H3 := f2.keep k3
      have s3 : SRel X.K (but R D) ad H3 Si := nw.srel s2
      -- the way on
      have cont : ∀ (b : Bool) (S4 : Strm) (H4 : Hp), Keep ad H3 H4 → SRel X.K (but R D) ad H4 S4 →
          ((if b = true then (evE T n elt' env1 S4).bind fun r => if r.1.isOwn then none else some (some r.1, r.2) else some (none, S4)) = some (r, S3)) →
          (if b = true then tV T X.K n elt' σ' H4 (fun y H5 => ∃ acc', H5 D = some (.lst acc') ∧ acc'.length < sizeLine ∧ ∃ Si acc accP rest, Keep ad H1 (L2.upd H5 D (.lst (acc' ++ [y]))) ∧ SRel X.K (but R D) ad (L2.upd H5 D (.lst (acc' ++ [y]))) Si ∧ (L2.upd H5 D (.lst (acc' ++ [y]))) D = some (.lst acc) ∧ Reps X.K (but R D) ad (L2.upd H5 D (.lst (acc' ++ [y]))) acc accP ∧ acc.length ≤ i + 1 ∧
            compL (stepV (fun e env S => evE T n e env S) elt' tg' ifs' (wipeE env (own.map (·.2)))) (its.drop (i + 1)) Si = some (rest, S2) ∧ accP ++ rest = ys)
          else ∃ Si acc accP rest, Keep ad H1 H4 ∧ SRel X.K (but R D) ad H4 Si ∧ H4 D = some (.lst acc) ∧ Reps X.K (but R D) ad H4 acc accP ∧ acc.length ≤ i + 1 ∧
            compL (stepV (fun e env S => evE T n e env S) elt' tg' ifs' (wipeE env (own.map (·.2)))) (its.drop (i + 1)) Si = some (rest, S2) ∧ accP ++ rest = ys) := by
        intro b S4 H4 k4 s4 hl
        have d4 : H4 D = some (.lst acc) := k4.1 _ _ (k3.1 _ _ d2 hDa) hDa
        have r4 : Reps X.K (but R D) ad H4 acc accP := (r2.keep k3).keep k4
        cases b with
        | true =>
          refine iteT ?_
          rw [if_pos rfl] at hl
          simp only [Option.bind_eq_some_iff] at hl
          obtain ⟨⟨z, S5⟩, h1, h2⟩ := hl
          split at h2
          · cases h2
          rename_i ho
          simp only [Option.some.injEq, Prod.mk.injEq] at h2
          obtain ⟨rfl, rfl⟩ := h2
          refine ⟨_, ad, env1, S4, z, S5, ⟨f3.keep k4, en'.keep k4, s4⟩, h1, fun u H5 k5 s5 r5 => ?_⟩
          have d5 : H5 D = some (.lst acc) := k5.1 _ _ d4 hDa
          have rz : Rep X.K (but R D) ad H5 u z := r5.rep (by simpa using ho)
          refine ⟨acc, d5, ?_, S5, acc ++ [u], accP ++ [z], rest', ?_, SRel.updD hDa s5, upd_same, ?_, ?_, c3, ?_⟩
          · have : sizeLine = 16777216 := sizeLine_eq
            have : its.length ≤ 1000000 := hlen
            omega
          · exact Keep.updD hD hDa (k13.trans (k4.trans k5))
          · exact (Reps.updD d5 (r4.keep k5)).append (.cons (Rep.updD d5 rz) .nil)
          · rw [List.length_append, List.length_singleton]; omega
          · rw [← p2, ej, List.append_assoc]; rfl
        | false =>
          refine iteF ?_
          rw [if_neg (by decide)] at hl
          simp only [Option.some.injEq, Prod.mk.injEq] at hl
          obtain ⟨rfl, rfl⟩ := hl
          exact ⟨_, acc, accP, rest', k13.trans k4, s4, d4, r4, by omega, c3, by rw [← p2, ej]⟩
      cases ifs' with
      | none =>
        simp only [Option.some.injEq, Prod.mk.injEq] at ht
        obtain ⟨rfl, rfl⟩ := ht
        exact cont true Si H3 Keep.refl s3 hlast
      | some d =>
        simp only [Option.bind_eq_some_iff, Option.map_eq_some_iff] at ht
        obtain ⟨⟨v, S5⟩, h1, k, h2, h3⟩ := ht
        simp only [Prod.mk.injEq] at h3
        obtain ⟨rfl, rfl⟩ := h3
        exact ⟨_, ad, env1, Si, v, S5, k, ⟨f3, en', s3⟩, h1, h2, fun H4 k4 s4 => cont k S5 H4 k4 s4 hlast⟩
    · rintro H' ⟨Si, acc, accP, rest, k2, s2, d2, r2, l2, c2, p2⟩
      rw [List.drop_length] at c2
      simp only [compL, Option.some.injEq, Prod.mk.injEq] at c2
      obtain ⟨rfl, rfl⟩ := c2
      rw [List.append_nil] at p2
      subst p2
      exact q D acc H' (k1.trans k2) (s2.mono fun b h => h.1) (k1.fresh hD) d2 r2
theorem pe_compV {elt tg it : Expr} {ifs : List Expr} {scope : Scope} {pos : Pos} {elt' : CE} {tg' : Tg} {it' : CI} {ifs' : Option CE} {own : List (Str × Nat)}
    (hc : X.calm = true) (hN : X.N.Nodup) (hi : PI X tg it (tI T X.K true n it')) (ok : BlkOk X.N X.env.scope scope own) (hin : tgIn tg' (own.map (·.2)) = true)
    (hg : ∀ (s : Shared) (H : Hp) (C : Addr) (cl : List (Str × Addr)) (fp : List Addr), PG (X.blk s H scope (compEnvC scope cl C X.env) fp) tg (gTg X.K tg'))
    (ht : ∀ (s : Shared) (H : Hp) (C : Addr) (cl : List (Str × Addr)) (fp : List Addr), PTs (X.blk s H scope (compEnvC scope cl C X.env) fp) ifs (tIf T X.K n ifs'))
    (he : ∀ (s : Shared) (H : Hp) (C : Addr) (cl : List (Str × Addr)) (fp : List Addr), PE (X.blk s H scope (compEnvC scope cl C X.env) fp) elt (tV T X.K n elt')) (hs : ∀ x, foldedSetIterable it X.env x = pure x) :
    PE X (.ListComp elt [⟨tg, it, ifs, 0⟩] scope pos) (tV T X.K (n + 1) (.comp elt' tg' it' ifs' own)) := by
  refine (pe_lc hc hN hi ok hg ht he hs).imp fun σ H Q hq => ?_
  exact comp_ok hin (tV_tF hq)
end
end Ws

/-! Ws9b: combinations and enumerate walked; comprehensions of two clauses. -/
namespace Ws
open PySem PySem.Spec PyProof.Rows L2

section
variable {T : Tbl} {X : Cx} {n : Nat} {x y z : Expr} {a b m : CE} {pos p p2 pos2 : Pos}
theorem rgOk_of {i j : Int} (h : (inR i && inR j && decide ((j - i).toNat ≤ LIM)) = true) : RgOk i j := by
  simp only [Bool.and_eq_true, decide_eq_true_eq] at h
  obtain ⟨⟨h1, h2⟩, h3⟩ := h
  unfold LIM at h3
  exact ⟨(inR_of h1).1, (inR_of h1).2, (inR_of h2).1, (inR_of h2).2, by omega⟩
theorem combV_k {xs l : List PV} {k : Int} (h : combV xs k = some l) : 0 ≤ k ∧ k ≤ 1000 := by
  unfold combV at h
  split at h
  · rename_i hk; simpa using hk
  · cases h
theorem pi_cb1V {ok : Bool} {tg : Expr} (hc : X.calm = true) (hg : Gl X "combinations") (hm : X.mg "combinations" = some (.type "itertools.combinations")) (hg2 : Gl X "range") (hm2 : X.mg "range" = none) (hb : PE X y (tV T X.K n b)) (hk : PE X z (tV T X.K n m)) (hs2 : notStar y = true) (hs3 : notStar z = true) :
    PI X tg (.Call (.Name "combinations" p) [.Call (.Name "range" p2) [y] [] pos2, z] [] pos) (tI T X.K ok n (.cb1 b m)) := by
  refine (Cb.pi_cb1 hc hg hm hg2 hm2 hb hk (by decide) (star1 rfl) (star1 hs3) (star1 hs2)).imp fun σ H Q hq => ?_
  obtain ⟨R, ad, env, S, xs, S', A, e1, q⟩ := hq
  simp only [itV, Option.bind_eq_some_iff] at e1
  obtain ⟨⟨v1, S1⟩, e1, e2⟩ := e1
  split at e2
  case h_2 => cases e2
  rename_i j hj
  have hj : v1 = .int j := hj
  subst hj
  simp only [Option.bind_eq_some_iff] at e2
  obtain ⟨⟨v2, S2⟩, e2, e3⟩ := e2
  unfold cbR at e3
  split at e3
  case h_2 => cases e3
  rename_i k hk
  have hk : v2 = .int k := hk
  subst hk
  split at e3
  case isFalse => cases e3
  rename_i hr
  simp only [Option.map_eq_some_iff, Prod.mk.injEq] at e3
  obtain ⟨l, e3, rfl, rfl⟩ := e3
  exact ⟨R, ad, env, S, _, S1, A, e1, fun u H1 k1 s1 r1 => ⟨j, r1.int, R, ad, env, S1, _, S2, A.keep k1 s1, e2, fun u2 H2 k2 s2 r2 =>
    ⟨k, r2.int, rgOk_of hr, (combV_k e3).1, (combV_k e3).2, q _ H2 (k1.trans k2) s2 (.comb (reps_rg 0 j) e3)⟩⟩⟩
theorem pi_cb2V {ok : Bool} {tg : Expr} (hc : X.calm = true) (hg : Gl X "combinations") (hm : X.mg "combinations" = some (.type "itertools.combinations")) (hg2 : Gl X "range") (hm2 : X.mg "range" = none) (ha : PE X x (tV T X.K n a)) (hb : PE X y (tV T X.K n b)) (hk : PE X z (tV T X.K n m)) (hs1 : notStar x = true) (hs2 : notStar y = true) (hs3 : notStar z = true) :
    PI X tg (.Call (.Name "combinations" p) [.Call (.Name "range" p2) [x, y] [] pos2, z] [] pos) (tI T X.K ok n (.cb2 a b m)) := by
  refine (Cb.pi_cb2 hc hg hm hg2 hm2 ha hb hk (by decide) (star1 rfl) (star1 hs3) (star1 hs1) (star1 hs2)).imp fun σ H Q hq => ?_
  obtain ⟨R, ad, env, S, xs, S', A, e1, q⟩ := hq
  simp only [itV, Option.bind_eq_some_iff] at e1
  obtain ⟨⟨v0, S0⟩, e0, ⟨v1, S1⟩, e1, e2⟩ := e1
  split at e2
  case h_2 => cases e2
  rename_i i j hi hj
  have hi : v0 = .int i := hi
  have hj : v1 = .int j := hj
  subst hi
  subst hj
  simp only [Option.bind_eq_some_iff] at e2
  obtain ⟨⟨v2, S2⟩, e2, e3⟩ := e2
  unfold cbR at e3
  split at e3
  case h_2 => cases e3
  rename_i k hk
  have hk : v2 = .int k := hk
  subst hk
  split at e3
  case isFalse => cases e3
  rename_i hr
  simp only [Option.map_eq_some_iff, Prod.mk.injEq] at e3
  obtain ⟨l, e3, rfl, rfl⟩ := e3
  exact ⟨R, ad, env, S, _, S0, A, e0, fun u0 H0 k0 s0 r0 => ⟨R, ad, env, S0, _, S1, A.keep k0 s0, e1, fun u H1 k1 s1 r1 => ⟨i, j, r0.int, r1.int, R, ad, env, S1, _, S2, (A.keep k0 s0).keep k1 s1, e2, fun u2 H2 k2 s2 r2 =>
    ⟨k, r2.int, rgOk_of hr, (combV_k e3).1, (combV_k e3).2, q _ H2 ((k0.trans k1).trans k2) s2 (.comb (reps_rg i j) e3)⟩⟩⟩⟩
theorem pi_cblV {ok : Bool} {tg : Expr} (hc : X.calm = true) (hg : Gl X "combinations") (hm : X.mg "combinations" = some (.type "itertools.combinations")) (ha : PE X x (tV T X.K n a)) (hk : PE X z (tV T X.K n m)) (hs1 : notStar x = true) (hs3 : notStar z = true) :
    PI X tg (.Call (.Name "combinations" p) [x, z] [] pos) (tI T X.K ok n (.cbl a m)) := by
  refine (Cb.pi_cbL hc hg hm ha hk (by decide) (star1 hs1) (star1 hs3)).imp fun σ H Q hq => ?_
  obtain ⟨R, ad, env, S, xs, S', A, e1, q⟩ := hq
  simp only [itV, Option.bind_eq_some_iff] at e1
  obtain ⟨⟨v0, S0⟩, e0, e2⟩ := e1
  split at e2
  · cases e2
  rename_i ho
  simp only [Option.bind_eq_some_iff] at e2
  obtain ⟨⟨v1, S1⟩, e1, e2⟩ := e2
  split at e2
  case h_2 => cases e2
  rename_i l0 k hl hk
  have hk : v1 = .int k := hk
  subst hk
  simp only [Option.map_eq_some_iff, Prod.mk.injEq] at e2
  obtain ⟨l, e3, rfl, rfl⟩ := e2
  refine ⟨R, ad, env, S, _, S0, A, e0, fun u0 H0 k0 s0 r0 => ⟨R, ad, env, S0, _, S1, A.keep k0 s0, e1, fun u H1 k1 s1 r1 => ?_⟩⟩
  obtain ⟨pp, vs, rfl, hp, rs⟩ := (r0.keep k1).seq hl
  exact ⟨pp, vs, k, rfl, r1.int, hp.imp (fun z => SqL.of z) (fun z => SqT.of z), (combV_k e3).1, (combV_k e3).2, q _ H1 (k0.trans k1) s1 (.comb rs e3)⟩
theorem pi_enumV {ok : Bool} {es : List Expr} {k : Nat} {tp : Pos} (hg : Gl X "enumerate") (hm : X.mg "enumerate" = none) (ha : PE X x (tV T X.K n a)) (hs : notStar x = true) : PI X (.Tuple es k tp) (.Call (.Name "enumerate" p) [x] [] pos) (tI T X.K ok n (.enum a)) := by
  refine (pi_enum hg hm (pa_cons ha pa_nil (star1 hs)) (star1 hs)).imp fun σ H Q hq => ?_
  obtain ⟨R, ad, env, S, xs, S', A, e1, q⟩ := hq
  simp only [itV, Option.bind_eq_some_iff] at e1
  obtain ⟨⟨v1, S1⟩, e1, e2⟩ := e1
  split at e2
  case isFalse => cases e2
  rename_i hok
  simp only [Option.map_eq_some_iff, Prod.mk.injEq] at e2
  obtain ⟨l, h1, rfl, rfl⟩ := e2
  refine ⟨R, ad, env, S, v1, S1, A, e1, fun u H1 k1 s1 r1 => ?_⟩
  obtain ⟨q0, vs, rfl, hp, np, hR, rs⟩ := r1.lstR (ok := ok) h1 (by
    rw [Bool.or_eq_true] at hok
    exact hok.imp id fun z => by simpa using z)
  exact ⟨q0, vs, rfl, SqL.of hp, q _ H1 k1 s1 (.enum hp np hR rs)⟩
end

section
variable {K : PySem.W.Frag} {R : Addr → Prop} {D a : Addr} {H H' : Hp} {l : List V}
mutual
/-- all but D is kept -/
theorem rep_but (k : ∀ b o, H b = some o → b ≠ a → b ≠ D → H' b = some o) (hD : H D = some (.lst l)) : ∀ {v : V} {x : PV}, Rep K (but R D) a H v x → Rep K (but R D) a H' v x
  | _, _, .non => .non
  | _, _, .bl b => .bl b
  | _, _, .int i => .int i
  | _, _, .str s => .str s
  | _, _, .ty n => .ty n
  | _, _, .stm => .stm
  | _, _, .tup h n r => .tup (k _ _ h n fun z => by rw [z, hD] at h; cases h) n (reps_but k hD r)
  | _, _, .lst h n q r => .lst (k _ _ h n q.2) n q (reps_but k hD r)
theorem reps_but (k : ∀ b o, H b = some o → b ≠ a → b ≠ D → H' b = some o) (hD : H D = some (.lst l)) : ∀ {vs : List V} {xs : List PV}, Reps K (but R D) a H vs xs → Reps K (but R D) a H' vs xs
  | _, _, .nil => .nil
  | _, _, .cons r rs => .cons (rep_but k hD r) (reps_but k hD rs)
end
end
/-- the owned lists of names do not lie at D -/
def OwnNe (D : Addr) (σ : L2.St) (env : Env) : Prop := ∀ (i : Nat) (xs : List PV) (l : Addr), env[i]? = some (some (.own xs)) → σ[i]? = some (some (.ref l)) → l ≠ D
theorem OwnNe.set {D : Addr} {σ : L2.St} {env : Env} (o : OwnNe D σ env) {v : V} {x : PV} (hx : x.isOwn = false) (i : Nat) : OwnNe D (σ.set i (some v)) (env.set i (some x)) := by
  intro j xs l h1 h2
  by_cases hj : i = j
  · subst hj
    by_cases hi : i < env.length
    · rw [List.getElem?_set_self hi] at h1
      cases h1
      simp [PV.isOwn] at hx
    · rw [List.getElem?_eq_none (by rw [List.length_set]; omega)] at h1
      cases h1
  · rw [List.getElem?_set_ne hj] at h1 h2
    exact o j xs l h1 h2
theorem OwnNe.wipe {D : Addr} {σ : L2.St} {env : Env} (o : OwnNe D σ env) (hl : σ.length = env.length) (vs : List Nat) : OwnNe D (L2.wipe σ vs) (wipeE env vs) := by
  intro j xs l h1 h2
  rw [wipeE_get] at h1
  rw [wipe_get] at h2
  split at h1
  · cases h1
  · rename_i hn
    rw [if_neg (by rw [hl]; exact hn)] at h2
    exact o j xs l h1 h2
section
variable {K : PySem.W.Frag} {R : Addr → Prop} {a D : Addr} {H : Hp} {σ : L2.St} {env env' : Env}
theorem OwnNe.of (e : EnvE K R a H σ env) (hD : H D = none) : OwnNe D σ env := by
  intro i xs l h1 h2 z
  obtain ⟨v, h3, l', vs, h4, h5, _⟩ := e.get i _ h1
  rw [h2] at h3
  cases h3
  cases h4
  rw [z, hD] at h5
  cases h5
theorem nms_okN {Q : L2.St → Hp → Prop} : ∀ (l : List Nat) {vs : List V} {xs : List PV} {σ : L2.St} {env : Env}, EnvE K R a H σ env → OwnNe D σ env → Reps K R a H vs xs → xs.length = l.length →
    (∀ σ', EnvE K R a H σ' ((l.zip xs).foldl (fun e p => e.set p.1 (some p.2)) env) → OwnNe D σ' ((l.zip xs).foldl (fun e p => e.set p.1 (some p.2)) env) → (∀ us, (∀ i ∈ l, i ∈ us) → L2.wipe σ' us = L2.wipe σ us) → Q σ' H) → gNms l vs σ H Q
  | [], vs, xs, σ, env, e, o, r, hl, q => by
    cases r with
    | nil => exact ⟨rfl, q σ e o fun _ _ => rfl⟩
    | cons _ _ => simp at hl
  | i :: l, vs, xs, σ, env, e, o, r, hl, q => by
    cases r with
    | nil => simp at hl
    | cons r rs =>
      refine ⟨_, _, rfl, ?_⟩
      show gNms l _ (σ.set i (some _)) H Q
      refine nms_okN l (e.set r.toE i) (o.set r.noOwn i) rs (by simpa using hl) fun σ' e' o' hw => q σ' e' o' fun us hu => ?_
      rw [hw us fun j hj => hu j (List.mem_cons_of_mem _ hj), wipe_set (hu i List.mem_cons_self)]
theorem bind_okN {t : Tg} {v : V} {x : PV} {Q : L2.St → Hp → Prop} (e : EnvE K R a H σ env) (o : OwnNe D σ env) (r : RepE K R a H v x) (hb : bindT t x env = some env')
    (q : ∀ σ', EnvE K R a H σ' env' → OwnNe D σ' env' → (∀ us, (∀ i ∈ tgIx t, i ∈ us) → L2.wipe σ' us = L2.wipe σ us) → Q σ' H) : gTg K t v σ H Q := by
  cases t with
  | nm i =>
    simp only [bindT] at hb
    split at hb
    · cases hb
    · rename_i ho
      simp only [Option.some.injEq] at hb
      subst hb
      exact q _ (e.set r i) (o.set (by simpa using ho) i) fun us hu => wipe_set (hu i (by simp [tgIx]))
  | tp l =>
    simp only [bindT] at hb
    split at hb
    · rename_i xs
      split at hb
      · rename_i hl
        simp only [Option.some.injEq] at hb
        subst hb
        obtain ⟨p, vs, rfl, h1, n1, rs⟩ := r.tup
        refine .inl ⟨p, vs, rfl, SqT.of h1, by rw [rs.length]; exact hl, ?_⟩
        exact nms_okN l e o rs hl fun σ' e' o' hw => q σ' e' o' hw
      · cases hb
    · rename_i xs
      split at hb
      · rename_i hl
        simp only [Option.some.injEq] at hb
        subst hb
        cases (show Rep K R a H v (.lst xs) from r) with
        | lst h1 n1 q1 rs =>
          refine .inr ⟨_, _, rfl, SqL.of h1, by rw [rs.length]; exact hl, ?_⟩
          exact nms_okN l e o rs hl fun σ' e' o' hw => q σ' e' o' hw
      · cases hb
    · cases hb
  | ns l j =>
    simp only [bindT] at hb
    split at hb
    · rename_i xs y
      split at hb
      · rename_i hl
        simp only [Option.some.injEq] at hb
        subst hb
        obtain ⟨p, vs, rfl, h1, n1, rs⟩ := r.tup
        cases rs with
        | cons r0 rs =>
          cases rs with
          | cons r1 rs =>
            cases rs with
            | nil =>
              obtain ⟨p2, vs2, rfl, h2, n2, rs2⟩ := r0.toE.tup
              refine ⟨p, _, rfl, SqT.of h1, rfl, _, _, rfl, p2, vs2, rfl, SqT.of h2, by rw [rs2.length]; exact hl, ?_⟩
              refine nms_okN l e o rs2 hl fun σ' e' o' hw => ⟨_, _, rfl, rfl, q _ (e'.set r1.toE j) (o'.set r1.noOwn j) fun us hu => ?_⟩
              rw [wipe_set (hu j (by simp [tgIx])), hw us fun i hi => hu i (by simp [tgIx, hi])]
      · cases hb
    · cases hb
theorem envE_but {H' : Hp} {l : List V} (k : ∀ b o, H b = some o → b ≠ a → b ≠ D → H' b = some o) (hD : H D = some (.lst l)) (e : EnvE K (but R D) a H σ env) (o : OwnNe D σ env) : EnvE K (but R D) a H' σ env := by
  refine ⟨e.len, fun i x h => ?_⟩
  obtain ⟨v, h1, h2⟩ := e.get i x h
  refine ⟨v, h1, ?_⟩
  cases x with
  | own ys =>
    obtain ⟨l2, ws, rfl, e2, n2, r2⟩ := h2
    exact ⟨l2, ws, rfl, k _ _ e2 n2 (o i ys l2 h h1), n2, reps_but k hD r2⟩
  | _ => exact rep_but k hD h2
end
/-! ### two clauses -/
theorem lcB_it {J : It} {nn : Nat} {G : Hp → Prop} {Y : Nat → Hp → V → Hp → Prop} (w : Walk J nn G Y) {g : TG} {tt : TT} {B : L2.St → Hp → (Hp → Prop) → Prop} {vs : List Nat} {σ : L2.St} {H0 : Hp} {Qd : Hp → Prop} (Pv : Nat → Hp → Prop) (h0 : Pv 0 H0) (hG : ∀ i H, i ≤ nn → Pv i H → G H)
    (hs : ∀ i x H H', i < nn → Pv i H → Y i H x H' → g x (L2.wipe σ vs) H' fun σ2 H2 => L2.wipe σ2 vs = L2.wipe σ vs ∧ tt σ2 H2 fun b H3 => if b = true then B σ2 H3 (Pv (i + 1)) else Pv (i + 1) H3) (hd : ∀ H, Pv nn H → Qd H) :
    ∃ W : Nat → Nat → Hp → Prop, (∃ m, W 0 m H0) ∧ ∀ i m H, W i m H →
      (J.stop i H ∧ Qd H) ∨ (J.go i H ∧ ∃ Nx : Hp → Prop, (∀ H', Nx H' → ∃ m', m' < m ∧ W (i + 1) m' H') ∧ ∀ x H', J.yld i H x H' → g x (L2.wipe σ vs) H' fun σ2 H2 => L2.wipe σ2 vs = L2.wipe σ vs ∧ tt σ2 H2 fun b H3 => if b = true then B σ2 H3 Nx else Nx H3) := by
  refine ⟨fun i m H => m = nn - i ∧ i ≤ nn ∧ Pv i H, ⟨nn, by simp, Nat.zero_le _, h0⟩, ?_⟩
  rintro i m H ⟨rfl, hi, p⟩
  have q := hG i H hi p
  by_cases hlt : i < nn
  · exact .inr ⟨w.goes i H hlt q, Pv (i + 1), fun H' p' => ⟨nn - (i + 1), by omega, rfl, hlt, p'⟩, fun x H' y => hs i x H H' hlt p (w.yields i H x H' hlt q y)⟩
  · have e : i = nn := by omega
    subst e
    exact .inl ⟨w.stops H q, hd H p⟩
theorem compLL_step {step : PV → Strm → Option (List PV × Strm)} {l : List PV} {S S2 : Strm} {ys : List PV} {x : PV} {i : Nat} (h : compLL step (l.drop i) S = some (ys, S2)) (hx : l[i]? = some x) :
    ∃ r S1 ys', step x S = some (r, S1) ∧ compLL step (l.drop (i + 1)) S1 = some (ys', S2) ∧ ys = r ++ ys' := by
  obtain ⟨hi, e⟩ := List.getElem?_eq_some_iff.mp hx
  have ed : l.drop i = x :: l.drop (i + 1) := by rw [List.drop_eq_getElem_cons hi, e]
  rw [ed] at h
  simp only [compLL, Option.bind_eq_some_iff, Option.map_eq_some_iff] at h
  obtain ⟨⟨r, S1⟩, h1, ⟨ys', S3⟩, h2, h3⟩ := h
  simp only [Prod.mk.injEq] at h3
  obtain ⟨h3, rfl⟩ := h3
  exact ⟨r, S1, ys', h1, h2, h3.symm⟩
section
variable {T : Tbl} {X : Cx} {n : Nat}
variable {elt' : CE} {tg' tg1' : Tg} {it' it1' : CI} {ifs' ifs1' : Option CE} {own : List (Str × Nat)}
theorem tV_tF2 {σ : L2.St} {H : Hp} {Q : VK} (hq : tV T X.K (n + 1) (.comp2 elt' tg' it' ifs' tg1' it1' ifs1' own) σ H Q) : tF T X.K (n + 1) (.comp2 elt' tg' it' ifs' tg1' it1' ifs1' own) σ H Q := by
  obtain ⟨R, ad, env, S, w, S', A, e1, q⟩ := hq
  have e0 := e1
  simp only [evE, Option.bind_eq_some_iff] at e1
  obtain ⟨⟨its, S1⟩, e1, ⟨ys, S2⟩, e2, e3⟩ := e1
  split at e3
  case isFalse => cases e3
  simp only [Option.some.injEq, Prod.mk.injEq] at e3
  obtain ⟨rfl, rfl⟩ := e3
  exact ⟨R, ad, env, S, ys, S2, A, e0, fun p vs H' k s hp hp' r => q _ H' k s (Rep.toE (.lst hp' (A.fr.ne hp) (A.fr.fc p hp) (r.mono (fun b h => h.1) Keep.refl)))⟩
/-- tests, by what they are worth -/
theorem tIf_ok {R : Addr → Prop} {ad : Addr} {σ : L2.St} {H : Hp} {env : Env} {S : Strm} {ifs : Option CE} {b : Bool} {S' : Strm} {Q : Bool → Hp → Prop} (A : At X.K σ H R ad env S) (h : testV (fun e env S => evE T n e env S) ifs env S = some (b, S')) (q : ∀ H', Keep ad H H' → SRel X.K R ad H' S' → Q b H') : tIf T X.K n ifs σ H Q := by
  cases ifs with
  | none =>
    simp only [testV, Option.some.injEq, Prod.mk.injEq] at h
    obtain ⟨rfl, rfl⟩ := h
    exact q H Keep.refl A.sr
  | some d =>
    simp only [testV, Option.bind_eq_some_iff, Option.map_eq_some_iff] at h
    obtain ⟨⟨v, S5⟩, h1, k, h2, h3⟩ := h
    simp only [Prod.mk.injEq] at h3
    obtain ⟨rfl, rfl⟩ := h3
    exact ⟨R, ad, env, S, v, S5, k, A, h1, h2, q⟩
theorem comp2_ok {σ : L2.St} {H : Hp} {Q : VK} (hin : tgIn tg' (own.map (·.2)) = true) (hq : tF T X.K (n + 1) (.comp2 elt' tg' it' ifs' tg1' it1' ifs1' own) σ H Q) :
      tLc2 (tI T X.K true n it') (gTg X.K tg') (tIf T X.K n ifs') (tI T X.K false n it1') (gTg X.K tg1') (tIf T X.K n ifs1') (tV T X.K n elt') (own.map (·.2)) (tgIx tg1') σ H Q := by
  obtain ⟨R, ad, env, S, w, S', A, e1, q⟩ := hq
  simp only [evE, Option.bind_eq_some_iff] at e1
  obtain ⟨⟨its, S1⟩, e1, ⟨ys, S2⟩, e2, e3⟩ := e1
  split at e3
  case isFalse => cases e3
  rename_i hlen
  simp only [Option.some.injEq, Prod.mk.injEq, PV.lst.injEq] at e3
  obtain ⟨rfl, rfl⟩ := e3
  refine ⟨R, ad, env, S, its, S1, A, e1, fun J H1 k1 s1 io D hD => ?_⟩
  obtain ⟨G, Y, wk, hG, hY⟩ := io.walk
  have f1 := A.fr.keep k1
  have hDa : D ≠ ad := f1.ne hD
  refine lcB_it wk (fun i H' => ∃ Si acc accP rest, Keep ad H1 H' ∧ SRel X.K (but R D) ad H' Si ∧ H' D = some (.lst acc) ∧ Reps X.K (but R D) ad H' acc accP ∧
    compLL (step2V (fun e env S => evE T n e env S) elt' tg' ifs' tg1' it1' ifs1' (wipeE env (own.map (·.2)))) (its.drop i) Si = some (rest, S2) ∧ accP ++ rest = ys) ?_ ?_ ?_ ?_
  · exact ⟨S1, [], [], ys, Keep.upd hD, SRel.updD hDa (s1.toD hD), upd_same, .nil, e2, rfl⟩
  · rintro i H' hi ⟨Si, acc, accP, rest, k2, _⟩
    exact hG H' fun b o e nb _ => k2.1 b o e nb
  · rintro i x H2 H3 hi ⟨Si, acc, accP, rest, k2, s2, d2, r2, c2, p2⟩ y3
    have nD2 : H2 D ≠ none := by rw [d2]; exact fun z => by cases z
    have f2 : Fresh (but R D) ad H2 := f1.but k2 nD2
    obtain ⟨nw, y, hy, ry⟩ := hY (but R D) H2 f2 (fun vs xs r => r.toD hD k2) i x H3 hi y3
    obtain ⟨rr, S3, rest', st, c3, ej⟩ := compLL_step c2 hy
    simp only [step2V, Option.bind_eq_some_iff] at st
    obtain ⟨env1, hb, ⟨b, S4⟩, ht, hlast⟩ := st
    have k3 : Keep ad H2 H3 := nw.keep
    have k13 : Keep ad H1 H3 := k2.trans k3
    have en : EnvE X.K (but R D) ad H3 (wipe σ (own.map (·.2))) (wipeE env (own.map (·.2))) := ((A.en.keep k1).toD hD k13).wipe _
    have on : OwnNe D (wipe σ (own.map (·.2))) (wipeE env (own.map (·.2))) := (OwnNe.of (A.en.keep k1) hD).wipe A.en.len _
    refine bind_okN en on ry.toE hb fun σ' en' on' hw => ⟨?_, ?_⟩
    · rw [hw _ fun i hi => by have := List.all_eq_true.mp hin i hi; simpa using this, wipe_wipe]
    have f3 : Fresh (but R D) ad H3 := f2.keep k3
    have s3 : SRel X.K (but R D) ad H3 Si := nw.srel s2
    refine tIf_ok ⟨f3, en', s3⟩ ht fun H4 k4 s4 => ?_
    have d4 : H4 D = some (.lst acc) := k4.1 _ _ (k3.1 _ _ d2 hDa) hDa
    have r4 : Reps X.K (but R D) ad H4 acc accP := (r2.keep k3).keep k4
    have k14 : Keep ad H1 H4 := k13.trans k4
    cases b with
    | false =>
      refine iteF ?_
      rw [if_neg Bool.false_ne_true] at hlast
      simp only [Option.some.injEq, Prod.mk.injEq] at hlast
      obtain ⟨rfl, rfl⟩ := hlast
      exact ⟨_, acc, accP, rest', k14, s4, d4, r4, c3, by rw [← p2, ej]; rfl⟩
    | true =>
      refine iteT ?_
      rw [if_pos rfl] at hlast
      simp only [Option.bind_eq_some_iff] at hlast
      obtain ⟨⟨its1, S5⟩, e5, e6⟩ := hlast
      refine ⟨but R D, ad, env1, S4, its1, S5, ⟨f3.keep k4, en'.keep k4, s4⟩, e5, fun J1 H5 k5 s5 io1 => ?_⟩
      obtain ⟨G1, Y1, wk1, hG1, hY1⟩ := io1.walk
      have k15 : Keep ad H1 H5 := k14.trans k5
      -- the second clause
      refine lcB_it (B := fun σ3 H6 Nx => tV T X.K n elt' σ3 H6 fun y H7 => ∃ acc, H7 D = some (.lst acc) ∧ acc.length < sizeLine ∧ Nx (L2.upd H7 D (.lst (acc ++ [y])))) wk1 (fun j H' => ∃ Sj acc accP rest1, Keep ad H1 H' ∧ (∀ b o, H5 b = some o → b ≠ ad → b ≠ D → H' b = some o) ∧ SRel X.K (but R D) ad H' Sj ∧ H' D = some (.lst acc) ∧ Reps X.K (but R D) ad H' acc accP ∧
        compL (stepV (fun e env S => evE T n e env S) elt' tg1' ifs1' (wipeE env1 (tgIx tg1'))) (its1.drop j) Sj = some (rest1, S3) ∧ accP ++ (rest1 ++ rest') = ys) ?_ ?_ ?_ ?_
      · exact ⟨S5, acc, accP, rr, k15, fun b o h _ _ => h, s5, k5.1 _ _ d4 hDa, r4.keep k5, e6, by rw [← ej]; exact p2⟩
      · rintro j H' hj ⟨Sj, acc', accP', rest1, k6, kk, _⟩
        refine hG1 H' fun b o e nb hh => kk b o e nb fun z => ?_
        have d5 : H5 D = some (.lst acc) := k5.1 _ _ d4 hDa
        rcases hh with hh | hh | ⟨vs, rfl⟩
        · cases hh
        · exact hh.2 z
        · rw [z, d5] at e; cases e
      · rintro j x1 H6 H7 hj ⟨Sj, acc6, accP6, rest1, k6, kk, s6, d6, r6, c6, p6⟩ y7
        have nD6 : H6 D ≠ none := by rw [d6]; exact fun z => by cases z
        have f6 : Fresh (but R D) ad H6 := f1.but k6 nD6
        have k56 : ∀ {vs : List V} {xs : List PV}, Reps X.K (but R D) ad H5 vs xs → Reps X.K (but R D) ad H6 vs xs := fun r => reps_but kk (k5.1 _ _ d4 hDa) r
        obtain ⟨nw7, y1, hy1, ry1⟩ := hY1 (but R D) H6 f6 (fun vs xs r => k56 r) j x1 H7 hj y7
        obtain ⟨r1, S6, rest2, st1, c7, ej1⟩ := compL_step c6 hy1
        simp only [stepV, Option.bind_eq_some_iff] at st1
        obtain ⟨env2, hb1, ⟨b1, S7⟩, ht1, hlast1⟩ := st1
        have k7 : Keep ad H6 H7 := nw7.keep
        have k17 : Keep ad H1 H7 := k6.trans k7
        have en1 : EnvE X.K (but R D) ad H7 (wipe σ' (tgIx tg1')) (wipeE env1 (tgIx tg1')) := (((envE_but kk (k5.1 _ _ d4 hDa) ((en'.keep k4).keep k5) on').keep k7).wipe _)
        refine bind_ok en1 ry1.toE hb1 fun σ2 en2 hw2 => ⟨?_, ?_⟩
        · rw [hw2 _ fun i hi => hi, wipe_wipe]
        have f7 : Fresh (but R D) ad H7 := f6.keep k7
        have s7 : SRel X.K (but R D) ad H7 Sj := nw7.srel s6
        refine tIf_ok ⟨f7, en2, s7⟩ (show testV (fun e env S => evE T n e env S) ifs1' env2 Sj = some (b1, S7) by cases ifs1' <;> exact ht1) fun H8 k8 s8 => ?_
        have d8 : H8 D = some (.lst acc6) := k8.1 _ _ (k7.1 _ _ d6 hDa) hDa
        have r8 : Reps X.K (but R D) ad H8 acc6 accP6 := (r6.keep k7).keep k8
        have k18 : Keep ad H1 H8 := k17.trans k8
        have kk8 : ∀ b o, H5 b = some o → b ≠ ad → b ≠ D → H8 b = some o := fun b o e n1 n2 => k8.1 _ _ (k7.1 _ _ (kk b o e n1 n2) n1) n1
        cases b1 with
        | false =>
          refine iteF ?_
          rw [if_neg Bool.false_ne_true] at hlast1
          simp only [Option.some.injEq, Prod.mk.injEq] at hlast1
          obtain ⟨rfl, rfl⟩ := hlast1
          exact ⟨_, acc6, accP6, rest2, k18, kk8, s8, d8, r8, c7, by rw [← p6, ej1]⟩
        | true =>
          refine iteT ?_
          rw [if_pos rfl] at hlast1
          simp only [Option.bind_eq_some_iff] at hlast1
          obtain ⟨⟨z, S9⟩, h1, h2⟩ := hlast1
          split at h2
          · cases h2
          rename_i ho
          simp only [Option.some.injEq, Prod.mk.injEq] at h2
          obtain ⟨rfl, rfl⟩ := h2
          refine ⟨_, ad, env2, S7, z, S9, ⟨f7.keep k8, en2.keep k8, s8⟩, h1, fun u H9 k9 s9 r9 => ?_⟩
          have d9 : H9 D = some (.lst acc6) := k9.1 _ _ d8 hDa
          have rz : Rep X.K (but R D) ad H9 u z := r9.rep (by simpa using ho)
          refine ⟨acc6, d9, ?_, S9, acc6 ++ [u], accP6 ++ [z], rest2, ?_, ?_, SRel.updD hDa s9, upd_same, ?_, c7, ?_⟩
          · have hs : sizeLine = 16777216 := sizeLine_eq
            have h5 : ys.length ≤ 1000000 := hlen
            have h6 := r6.length
            have h7 : accP6.length ≤ ys.length := by rw [← p6, List.length_append]; omega
            omega
          · exact Keep.updD hD hDa (k18.trans k9)
          · intro b o e n1 n2
            rw [upd_ne n2]
            exact k9.1 _ _ (kk8 b o e n1 n2) n1
          · exact (Reps.updD d9 (r8.keep k9)).append (.cons (Rep.updD d9 rz) .nil)
          · rw [← p6, ej1]; simp
      · rintro H' ⟨Sj, acc, accP, rest1, k6, kk, s6, d6, r6, c6, p6⟩
        rw [List.drop_length] at c6
        simp only [compL, Option.some.injEq, Prod.mk.injEq] at c6
        obtain ⟨rfl, rfl⟩ := c6
        exact ⟨_, acc, accP, rest', k6, s6, d6, r6, c3, p6⟩
  · rintro H' ⟨Si, acc, accP, rest, k2, s2, d2, r2, c2, p2⟩
    rw [List.drop_length] at c2
    simp only [compLL, Option.some.injEq, Prod.mk.injEq] at c2
    obtain ⟨rfl, rfl⟩ := c2
    rw [List.append_nil] at p2
    subst p2
    exact q D acc H' (k1.trans k2) (s2.mono fun b h => h.1) (k1.fresh hD) d2 r2
theorem pe_comp2V {elt tg it tg1 it1 : Expr} {ifs ifs1 : List Expr} {scope : Scope} {pos : Pos}
    (hc : X.calm = true) (hN : X.N.Nodup) (hi : PI X tg it (tI T X.K true n it')) (ok : BlkOk X.N X.env.scope scope own) (hin : tgIn tg' (own.map (·.2)) = true) (hin1 : tgIn tg1' (own.map (·.2)) = true)
    (hg : ∀ (s : Shared) (H : Hp) (C : Addr) (cl : List (Str × Addr)) (fp : List Addr), PG (X.blk s H scope (compEnvC scope cl C X.env) fp) tg (gTg X.K tg'))
    (ht : ∀ (s : Shared) (H : Hp) (C : Addr) (cl : List (Str × Addr)) (fp : List Addr), PTs (X.blk s H scope (compEnvC scope cl C X.env) fp) ifs (tIf T X.K n ifs'))
    (hi1 : ∀ (s : Shared) (H : Hp) (C : Addr) (cl : List (Str × Addr)) (fp : List Addr), PI (X.blk s H scope (compEnvC scope cl C X.env) fp) tg1 it1 (tI T X.K false n it1'))
    (hg1 : ∀ (s : Shared) (H : Hp) (C : Addr) (cl : List (Str × Addr)) (fp : List Addr), PG (X.blk s H scope (compEnvC scope cl C X.env) fp) tg1 (gTg X.K tg1'))
    (ht1 : ∀ (s : Shared) (H : Hp) (C : Addr) (cl : List (Str × Addr)) (fp : List Addr), PTs (X.blk s H scope (compEnvC scope cl C X.env) fp) ifs1 (tIf T X.K n ifs1'))
    (he : ∀ (s : Shared) (H : Hp) (C : Addr) (cl : List (Str × Addr)) (fp : List Addr), PE (X.blk s H scope (compEnvC scope cl C X.env) fp) elt (tV T X.K n elt')) (hs : ∀ x, foldedSetIterable it X.env x = pure x) (hs1 : ∀ env x, foldedSetIterable it1 env x = pure x) :
    PE X (.ListComp elt [⟨tg, it, ifs, 0⟩, ⟨tg1, it1, ifs1, 0⟩] scope pos) (tV T X.K (n + 1) (.comp2 elt' tg' it' ifs' tg1' it1' ifs1' own)) := by
  refine (pe_lc2 hc hN hi ok (fun i hi => by have := List.all_eq_true.mp hin1 i hi; simpa using this) hg ht hi1 hg1 ht1 he hs hs1).imp fun σ H Q hq => ?_
  exact comp2_ok hin (tV_tF2 hq)
end
end Ws

/-! WsS1: how many whole numbers {elt for .. in .. for .. in ..} has. -/
namespace Ws
open PySem PySem.Spec PyProof.Rows L2 PpSet

section
variable {P : Program} {w : World} {A : Around} {R : Result → Shared → Prop} {u : Shared} {el ta ia tb ib : Expr} {sc : Scope} {ps : Pos} {it acc : Value} {ev : PySem.Env}
abbrev sc2 (el ta ia tb ib : Expr) (sc : Scope) (ps : Pos) : Expr := .SetComp el [⟨ta, ia, [], 0⟩, ⟨tb, ib, [], 0⟩] sc ps
theorem sc2_out : compTurn (sc2 el ta ia tb ib sc ps) 0 it acc ev = (standAt ia.pos >>= fun _ => pyNext it >>= fun r => match r with
    | none => pure (.done .next)
    | some v => letOwnedTupleGo ta it v >>= fun _ => assign ta ev v >>= fun _ => eval ib ev >>= fun x => standAt ib.pos >>= fun _ => foldedSetIterable ib ev x >>= fun x =>
      holding [x] (pyIter x) >>= fun i1 => runOwn (.compStart (sc2 el ta ia tb ib sc ps) 1 i1 acc ev) ev >>= fun _ => again (.compLoop (sc2 el ta ia tb ib sc ps) 0 it acc ev)) := by rfl
theorem sc2_in : compTurn (sc2 el ta ia tb ib sc ps) 1 it acc ev = (standAt ib.pos >>= fun _ => pyNext it >>= fun r => match r with
    | none => pure (.done .next)
    | some v => letOwnedTupleGo tb it v >>= fun _ => assign tb ev v >>= fun _ => (eval el ev >>= fun x => standAt el.pos >>= fun _ => call (.builtin "set.add") [acc, x] >>= fun _ => pure ()) >>= fun _ =>
      again (.compLoop (sc2 el ta ia tb ib sc ps) 1 it acc ev)) := by rfl
abbrev NX : Value → Shared → Prop := fun _ _ => False
/-- nothing raised, the worth as told -/
abbrev ok' (P : Program) (w : World) (A : Around) {α : Type} (t : Sem α) (Q : α → Shared → Prop) (u : Shared) : Prop := wpAny (model P w) A t Q NX u
theorem ok'_to {α : Type} {t : Sem α} {Q Q' : α → Shared → Prop} {E : Value → Shared → Prop} (h : ok' P w A t Q u) (q : ∀ a u1, Q a u1 → Q' a u1) : wpAny (model P w) A t Q' E u := wpAny_mono h q fun _ _ z => z.elim
/-- the turns of the first clause -/
theorem sc2_outer (hf : ∀ x, foldedSetIterable ib ev x = pure x) (I : Nat → Shared → Prop)
    (go : ∀ n u, I n u → ok' P w A (pyNext it) (fun r u1 => match r with
      | none => R (.ok .next) u1
      | some v => ok' P w A (letOwnedTupleGo ta it v) (fun _ u2 => ok' P w A (assign ta ev v) (fun _ u3 => ok' P w A (eval ib ev) (fun x u4 => ok' P w A (pyIter x) (fun i1 u5 =>
          codeAny (model P w) A (.compStart (sc2 el ta ia tb ib sc ps) 1 i1 acc ev) (fun r u6 => (∃ f, r = .ok f) ∧ ∃ m, m < n ∧ I m u6) u5) u4) u3) u2) u1) u)
    (n : Nat) (h : I n u) : codeAny (model P w) A (.compLoop (sc2 el ta ia tb ib sc ps) 0 it acc ev) R u := by
  refine codeAny_loop rfl I (fun n u hI => ?_) n h
  refine wpAny_noted (env := ev) ?_
  rw [sc2_out]
  refine wpAny_bind (wpAny_standAt (wpAny_bind (ok'_to (go n u hI) fun r u1 h1 => ?_)))
  cases r with
  | none => exact wpAny_pure h1
  | some v =>
    refine wpAny_bind (ok'_to h1 fun _ u2 h2 => wpAny_bind (ok'_to h2 fun _ u3 h3 => wpAny_bind (ok'_to h3 fun x u4 h4 => wpAny_bind (wpAny_standAt (wpAny_bind (wpAny_of_eq (hf x) ?_))))))
    refine wpAny_bind (wpAny_holding (ok'_to h4 fun i1 u5 h5 => wpAny_bind (wpAny_runOwn ?_)))
    rw [Around.mark_none]
    refine codeAny_mono h5 fun r u6 h6 => ?_
    obtain ⟨⟨f, rfl⟩, m⟩ := h6
    first
      | exact wpAny_pure ⟨rfl, m⟩
      | exact wpAny_bind (wpAny_pure (wpAny_pure ⟨rfl, m⟩))
/-- the turns of the second -/
theorem sc2_inner (I : Nat → Shared → Prop)
    (go : ∀ n u, I n u → ok' P w A (pyNext it) (fun r u1 => match r with
      | none => R (.ok .next) u1
      | some v => ok' P w A (letOwnedTupleGo tb it v) (fun _ u2 => ok' P w A (assign tb ev v) (fun _ u3 => ok' P w A (eval el ev) (fun x u4 => ok' P w A (call (.builtin "set.add") [acc, x]) (fun _ u5 => ∃ m, m < n ∧ I m u5) u4) u3) u2) u1) u)
    (n : Nat) (h : I n u) : codeAny (model P w) A (.compLoop (sc2 el ta ia tb ib sc ps) 1 it acc ev) R u := by
  refine codeAny_loop rfl I (fun n u hI => ?_) n h
  refine wpAny_noted (env := ev) ?_
  rw [sc2_in]
  refine wpAny_bind (wpAny_standAt (wpAny_bind (ok'_to (go n u hI) fun r u1 h1 => ?_)))
  cases r with
  | none => exact wpAny_pure h1
  | some v =>
    refine wpAny_bind (ok'_to h1 fun _ u2 h2 => wpAny_bind (ok'_to h2 fun _ u3 h3 => wpAny_bind (wpAny_bind (ok'_to h3 fun x u4 h4 => wpAny_bind (wpAny_standAt (wpAny_bind (ok'_to h4 fun _ u5 h5 => wpAny_pure (wpAny_pure ⟨rfl, h5⟩))))))))
/-- the second clause is begun -/
theorem sc2_begin {k : Nat} (h0 : codeAny (model P w) A (.compLoop (sc2 el ta ia tb ib sc ps) 1 it acc ev) R u) (h : ok' P w A (pyIter it) (fun i2 u1 => codeAny (model P w) A (.compLoop (sc2 el ta ia tb ib sc ps) 1 i2 acc ev) R u1) u) :
    codeAny (model P w) A (.compStart (sc2 el ta ia tb ib sc ps) 1 it acc ev) R u := by
  refine codeAny_of_tree ?_
  refine wpAny_notedAt (env := ev) ?_
  unfold compStart
  refine wpAny_bind (wpAny_askSetting (wpAny_ite ?_))
  split
  · first
      | exact wpAny_bind (wpAny_pure (wpAny_pure ⟨rfl, h0⟩))
      | exact wpAny_pure ⟨rfl, h0⟩
  · refine wpAny_bind (wpAny_rule ?_)
    first
      | exact wpAny_bind (wpAny_standAt (wpAny_bind (ok'_to h fun i2 u1 h1 => wpAny_pure ⟨rfl, h1⟩)))
      | (show wpAny _ _ (standAt ib.pos >>= _) _ _ u; exact wpAny_bind (wpAny_standAt (wpAny_bind (ok'_to h fun i2 u1 h1 => wpAny_pure ⟨rfl, h1⟩))))
end
/-! ### in a context -/
/-- the turns that are left of an iterator -/
structure Left (J : It) (S0 : V → Hp → (Hp → Prop) → Prop) (Fin : Hp → Prop) (W : Nat → Nat → Hp → Prop) : Prop where
  go : ∀ i m H, W i m H → (J.stop i H ∧ Fin H) ∨ (J.go i H ∧ ∃ Nx : Hp → Prop, (∀ H', Nx H' → ∃ m', m' < m ∧ W (i + 1) m' H') ∧ ∀ x H', J.yld i H x H' → S0 x H' Nx)
def tInn (w : World) (D : Addr) (wb : TI) (gb : TG) (te : TE) (vb : List Nat) (σ : L2.St) (H : Hp) (Nx : Hp → Prop) : Prop :=
  wb σ H fun J H1 => ∃ W, (∃ m, W 0 m H1) ∧ Left J (fun x H' Ny => gb x (wipe σ vb) H' fun σ3 H5 => wipe σ3 vb = wipe σ vb ∧ te σ3 H5 fun y H7 => rSAdd w (.ref D) [y] H7 fun _ H8 => Ny H8) Nx W
/-- {el for ta in ia for tb in ib}: D the new set -/
def tSc2 (w : World) (wa : TI) (ga : TG) (wb : TI) (gb : TG) (te : TE) (va vb : List Nat) : TE := fun σ H Q => wa σ H fun J H1 => ∀ D, H1 D = none → ∃ W, (∃ m, W 0 m (L2.upd H1 D (SetO w D (fun _ => false) 0))) ∧
  Left J (fun x H' Nx => ga x (wipe σ va) H' fun σ2 H2 => wipe σ2 va = wipe σ va ∧ tInn w D wb gb te vb σ2 H2 Nx) (fun H => Q (.ref D) H) W
section
variable {Y : Cx} {el ta ia tb ib : Expr} {sc : Scope} {ps : Pos} {D : Addr} {wb : TI} {gb : TG} {te : TE} {vb : List Nat} {τ : L2.St} {pl : List (Addr × Obj)} {H : Hp} {u : Shared} {Nx : Hp → Prop}
theorem nx_of {α : Type} {t : Sem α} {Q : α → Shared → Prop} (hx : Y.xe = NX) (h : wpAny (model Y.prog Y.w) Y.A t Q Y.xe u) : ok' Y.prog Y.w Y.A t Q u := by rw [hx] at h; exact h
/-- the second clause, walked to its end -/
theorem sc2_walk (hx : Y.xe = NX) (hc : Y.calm = true) (pib : PI Y tb ib wb) (pgb : PG Y tb gb) (pe : PE Y el te) (J0 : Inv Y pl τ H u) (h : tInn Y.w D wb gb te vb τ H Nx) :
    ok' Y.prog Y.w Y.A (eval ib Y.env) (fun x u1 => ok' Y.prog Y.w Y.A (pyIter x) (fun i1 u2 =>
      codeAny (model Y.prog Y.w) Y.A (.compStart (sc2 el ta ia tb ib sc ps) 1 i1 (.ref D) Y.env) (fun r u3 => (∃ f, r = .ok f) ∧ ∃ σ3 H', Inv Y pl σ3 H' u3 ∧ wipe σ3 vb = wipe τ vb ∧ Nx H') u2) u1) u := by
  refine ok'_to (nx_of hx (pib.run pl u τ H _ J0 h)) fun x u1 h1 => ok'_to (nx_of hx h1) fun i1 u2 h2 => ?_
  obtain ⟨a1, fp, tn, J, H1, rfl, I1, T, st, free, W, ⟨m0, w0⟩, left⟩ := h2
  have fr : ∀ {Hq : Hp}, (∀ b ∈ fp, Hq b = none) → ∀ b ∈ fp, FpOk Y pl Hq b := fun z b hb => ⟨z b hb, (free b hb).2⟩
  have walked : codeAny (model Y.prog Y.w) Y.A (.compLoop (sc2 el ta ia tb ib sc ps) 1 (.ref a1) (.ref D) Y.env) (fun r u3 => (∃ f, r = .ok f) ∧ ∃ σ3 H', Inv Y pl σ3 H' u3 ∧ wipe σ3 vb = wipe τ vb ∧ Nx H') u2 := by
    refine sc2_inner (fun k v => ∃ j Hq, Inv Y pl (wipe τ vb) Hq v ∧ tn j v.heap ∧ (∀ b ∈ fp, Hq b = none) ∧ W j k Hq) ?_ m0 ⟨0, H1, I1.weak (wipe_length _ _) (fun j v e => (wipe_some e).1), st, fun b hb => (free b hb).1, w0⟩
    rintro k v ⟨j, Hq, Iq, tq, zq, wq⟩
    rcases left.go j k Hq wq with ⟨halt, fin⟩ | ⟨more, Ny, hNy, turn⟩
    · refine ok'_to (T.done Y rfl rfl rfl hc j pl v (wipe τ vb) Hq NX Iq (fr zq) tq halt) fun r v1 hr => ?_
      obtain ⟨rfl, Ir⟩ := hr
      exact ⟨⟨_, rfl⟩, _, Hq, Ir, wipe_wipe, fin⟩
    · refine ok'_to (T.item Y rfl rfl rfl hc j pl v (wipe τ vb) Hq NX Iq (fr zq) tq more) fun r v1 hr => ?_
      obtain ⟨c, rfl, hr⟩ := hr
      refine ok'_to hr fun _ v2 ⟨x2, H2, I2, r2, y2, t2, z2⟩ => ?_
      have I2p := I2.pinned (fr z2) (T.obj _ _ t2)
      refine ok'_to (nx_of hx (pgb.run _ v2 _ H2 x2 c _ I2p r2 (turn x2 H2 y2))) fun _ v3 ⟨σ3, H3, I3, e3, q3⟩ => ?_
      refine ok'_to (nx_of hx (pe.run _ v3 σ3 H3 _ I3 q3)) fun c4 v4 ⟨y4, H4, I4, r4, q4⟩ => ?_
      refine ok'_to (nx_of hx (mt_sadd _ v4 σ3 H4 (.ref D) [y4] (.ref D) [c4] _ I4 rfl (.cons r4 .nil) q4)) fun _ v5 ⟨_, H5, I5, _, q5⟩ => ?_
      obtain ⟨k', lt, w5⟩ := hNy H5 q5
      have pinned : ∀ b ∈ fp, ∀ o, v2.heap.get? b = some o → v5.heap.get? b = some o ∧ H5 b = none := fun b hb o e => by
        have z := I5.pin (b, o) (List.mem_append_right _ (List.mem_append_right _ (mem_pinsAt hb e)))
        exact ⟨z.1, z.2.1⟩
      refine ⟨k', lt, j + 1, H5, I5.unpinned.weak (by rw [← e3, wipe_length]) (fun i v e => (wipe_some (e3 ▸ e)).1), T.keep _ _ _ t2 fun b hb o e => (pinned b hb o e).1, fun b hb => ?_, w5⟩
      obtain ⟨o, e, _⟩ := T.obj _ _ t2 b hb
      exact (pinned b hb o e).2
  exact sc2_begin (k := 0) walked (T.self Y.A 0 u2 _ NX st walked)
end
section
variable {X : Cx} {el ta ia tb ib : Expr} {sc : Scope} {ps : Pos} {wa wb : TI} {ga gb : TG} {te : TE} {vb : List Nat} {own : List (Str × Nat)}
theorem pe_sc2 (hc : X.calm = true) (hN : X.N.Nodup) (pia : PI X ta ia wa) (ok : BlkOk X.N X.env.scope sc own) (hv : ∀ i ∈ vb, i ∈ own.map (·.2))
    (pga : ∀ s H C cl fp, PG (X.blk s H sc (compEnvC sc cl C X.env) fp) ta ga) (pib : ∀ s H C cl fp, PI (X.blk s H sc (compEnvC sc cl C X.env) fp) tb ib wb)
    (pgb : ∀ s H C cl fp, PG (X.blk s H sc (compEnvC sc cl C X.env) fp) tb gb) (pe : ∀ s H C cl fp, PE (X.blk s H sc (compEnvC sc cl C X.env) fp) el te)
    (fa : ∀ x, foldedSetIterable ia X.env x = pure x) (fb : ∀ ev x, foldedSetIterable ib ev x = pure x) :
    PE X (sc2 el ta ia tb ib sc ps) (tSc2 X.w wa ga wb gb te (own.map (·.2)) vb) := by
  refine ⟨fun pins s σ H Q I h => ?_⟩
  rw [eval_SetComp]
  have cells : ∀ y ∈ sc.names, y.2 = .free → ∃ c, X.env.cells.lookup y.1 = some c := fun y hy e => (ok.free y hy e).elim (fun k => I.ok.has _ (.inl k)) fun k => I.ok.has _ (.inr k)
  refine wpAny_comprehension_free (use := none) rfl fa (closure_ok cells) ok.kind (fun y hy e => by rw [ok.uniq y hy, e]) (thn (pia.run pins s σ H _ I h) fun _ s1 k1 => thn k1 fun _ s2 k2 => ?_)
  obtain ⟨a1, fp, tn, J, H2, rfl, I2, T, t2, free, q⟩ := k2
  refine newSet_ok (newEnv_comp ?_)
  obtain ⟨D, eD⟩ : ∃ D, s2.heap.objs.size = D := ⟨_, rfl⟩
  rw [eD]
  have noD : H2 D = none := I2.hok.fresh (Nat.le_of_eq eD)
  obtain ⟨W, ⟨m0, w0⟩, left⟩ := q D noD
  obtain ⟨v, ev⟩ : ∃ v : Shared, ({ s2 with heap := s2.heap.push { cls := .type "set", dict := none, data := .set #[] 0 (.fresh 0 0 (!X.w.params.followText "set-order")) } } : Shared) = v := ⟨_, rfl⟩
  have vh : v.heap = s2.heap.push { cls := .type "set", dict := none, data := .set #[] 0 (.fresh 0 0 (!X.w.params.followText "set-order")) } := by rw [← ev]
  have Iv : Inv X pins σ (L2.upd H2 D (SetO X.w D (fun _ => false) 0)) v := by
    rw [← ev]
    refine I2.laid (t' := s2.toks) (fun b o e => Heap.get?_push_of_some _ e) (Nat.le_of_eq eD) ?_
    rw [← eD]
    exact setO_new (setR_fresh X.w)
  have below : ∀ b ∈ fp, b < s2.heap.objs.size := fun b hb => (T.obj _ _ t2 b hb).elim fun o e => Heap.lt_size e.1
  have fpv : ∀ b ∈ fp, FpOk X pins (L2.upd H2 D (SetO X.w D (fun _ => false) 0)) b ∧ b < v.heap.objs.size := fun b hb => by
    have lt := below b hb
    refine ⟨⟨?_, (free b hb).2⟩, by rw [vh, Heap.size_push]; exact Nat.lt_succ_of_lt lt⟩
    rw [upd_ne (fun z => Nat.lt_irrefl _ (Nat.lt_of_lt_of_eq lt (eD.trans z.symm)))]
    exact (free b hb).1
  have tv : tn 0 v.heap := T.keep _ _ _ t2 fun b _ o e => by rw [vh]; exact Heap.get?_push_of_some _ e
  have Ib := block_start Iv ok hN fpv
  obtain ⟨H3, e3⟩ : ∃ H3, L2.upd H2 D (SetO X.w D (fun _ => false) 0) = H3 := ⟨_, rfl⟩
  rw [e3] at Ib fpv Iv w0
  obtain ⟨ce, ece⟩ : ∃ ce : PySem.Env, compEnvC sc (cellsFrom (v.heap.objs.size + 1) sc.names (cloFrom X.env.cells sc.names [])) v.heap.objs.size X.env = ce := ⟨_, rfl⟩
  have ya := pga v H3 v.heap.objs.size (cellsFrom (v.heap.objs.size + 1) sc.names (cloFrom X.env.cells sc.names [])) fp
  have yb := pib v H3 v.heap.objs.size (cellsFrom (v.heap.objs.size + 1) sc.names (cloFrom X.env.cells sc.names [])) fp
  have yc := pgb v H3 v.heap.objs.size (cellsFrom (v.heap.objs.size + 1) sc.names (cloFrom X.env.cells sc.names [])) fp
  have yd := pe v H3 v.heap.objs.size (cellsFrom (v.heap.objs.size + 1) sc.names (cloFrom X.env.cells sc.names [])) fp
  rw [ev]
  rw [ece] at Ib ya yb yc yd
  have celoc : ce.locals = v.heap.objs.size := by rw [← ece]; rfl
  obtain ⟨z, ez⟩ : ∃ z : Shared, ({ v with heap := pushCells (v.heap.push { cls := .type "dict", data := .dict #[] }) sc.names } : Shared) = z := ⟨_, rfl⟩
  rw [ez] at Ib
  have tz : tn 0 z.heap := T.keep _ _ _ tv fun b _ o e => by rw [← ez]; exact pushCells_keeps _ _ _ _ (Heap.get?_push_of_some _ e)
  have still : ∀ {σq : L2.St} {Hq : Hp} {sq : Shared}, Inv (X.blk v H3 sc ce fp) [] σq Hq sq → (∀ b ∈ fp, Hq b = none) → ∀ b ∈ fp, FpOk (X.blk v H3 sc ce fp) [] Hq b := fun {σq Hq sq} Iq nn b hb =>
    ⟨nn b hb, (Iq.ok.exf b hb).1, Iq.ok.exfs b hb, .inl hb, fun x c e => (Iq.ok.exf b hb).2 x c e, fun p hp => by cases (show p ∈ ([] : List (Addr × Obj)) from hp)⟩
  have turns : codeAny (model X.prog X.w) X.A (.compLoop (sc2 el ta ia tb ib sc ps) 0 (.ref a1) (.ref D) ce) (compPost (model X.prog X.w) X.A X.xe none (EP X pins σ Q) (.ref D) v.heap.objs.size) z := by
    refine sc2_outer (fb ce) (fun k y => ∃ i Hq, Inv (X.blk v H3 sc ce fp) [] (wipe σ (own.map (·.2))) Hq y ∧ tn i y.heap ∧ (∀ b ∈ fp, Hq b = none) ∧ W i k Hq) ?_ m0 ⟨0, H3, Ib, tz, fun b hb => (fpv b hb).1.1, w0⟩
    rintro k y ⟨i, Hq, Iq, tq, nq, wq⟩
    rcases left.go i k Hq wq with ⟨halt, fin⟩ | ⟨more, Nx, hNx, turn⟩
    · refine ok'_to (T.done (X.blk v H3 sc ce fp) rfl rfl rfl hc i [] y _ Hq NX Iq (still Iq nq) tq halt) fun r y1 hr => ?_
      obtain ⟨rfl, I6⟩ := hr
      have I7 : Inv X pins σ Hq y1 := Iv.call' (ch := fp) I6.os I6.base I6.hok I6.bare fun b hb => ⟨(fpv b hb).1.2.2.2.1, (fpv b hb).1.2.1, (fpv b hb).1.2.2.2.2.1, (fpv b hb).1.2.2.2.2.2⟩
      have gone : Hq v.heap.objs.size = none := by rw [← celoc]; exact I6.free
      obtain ⟨m, hn, _⟩ := I6.loc
      have hn : y1.heap.Ns ce.locals m := hn
      rw [celoc] at hn
      obtain ⟨g0, g1, g2, g3, g4, g5⟩ := Iv.fpOk (Nat.le_refl _) gone
      exact ⟨m, hn, fun h'' sb => ⟨.ref D, Hq, I7.turned (t' := y1.toks) (fun b o hb e => (sb.2 b hb).trans e) g0 g1 g3 g4 g5, rfl, fin⟩⟩
    · refine ok'_to (T.item (X.blk v H3 sc ce fp) rfl rfl rfl hc i [] y _ Hq NX Iq (still Iq nq) tq more) fun r y1 hr => ?_
      obtain ⟨c, rfl, hr⟩ := hr
      refine ok'_to hr fun _ y2 ⟨x2, H4, I4, r4, y4, t4, n4⟩ => ?_
      have I4p := I4.pinned (still I4 n4) (T.obj _ _ t4)
      refine ok'_to (nx_of (Y := X.blk v H3 sc ce fp) rfl (ya.run _ y2 _ H4 x2 c _ I4p r4 (turn x2 H4 y4))) fun _ y3 ⟨σ5, H5, I5, e5, q5⟩ => ?_
      refine ok'_to (sc2_walk (Y := X.blk v H3 sc ce fp) (el := el) (ta := ta) (ia := ia) (sc := sc) (ps := ps) rfl hc yb yc yd I5 q5) fun x6 y6 h6 => ok'_to h6 fun x7 y7 h7 => codeAny_mono h7 fun r8 y8 h8 => ?_
      obtain ⟨hf, σ8, H8, I8, e8, nx8⟩ := h8
      obtain ⟨k', lt, w8⟩ := hNx H8 nx8
      have pinned : ∀ b ∈ fp, ∀ o, y2.heap.get? b = some o → y8.heap.get? b = some o ∧ H8 b = none := fun b hb o e => by
        have zz := I8.pin (b, o) (List.mem_append_right _ (List.mem_append_right _ (mem_pinsAt hb e)))
        exact ⟨zz.1, zz.2.1⟩
      refine ⟨hf, k', lt, i + 1, H8, I8.unpinned.weak ?_ fun j vv ej => ?_, T.keep _ _ _ t4 fun b hb o e => (pinned b hb o e).1, fun b hb => ?_, w8⟩
      · rw [wipe_length, ← wipe_length σ8 vb, e8, wipe_length, ← wipe_length σ5 (own.map (·.2)), e5, wipe_length]
      · rw [← e5] at ej
        obtain ⟨p1, p2⟩ := wipe_some ej
        have p3 : (wipe σ8 vb)[j]? = some (some vv) := by rw [e8, wipe_out fun q => p2 (hv j q)]; exact p1
        exact (wipe_some p3).1
      · obtain ⟨o, e, _⟩ := T.obj _ _ t4 b hb
        exact (pinned b hb o e).2
  have begun := codeAny_compStart_set (rest := [⟨tb, ib, [], 0⟩]) turns (T.self X.A 0 z _ _ tz turns)
  rw [← ez, ← ece] at begun
  exact begun
end
end Ws

/-! WsS2: displays that begin with a star; how many whole numbers a set by two clauses has. -/
namespace Ws
open PySem PySem.Spec PyProof.Rows L2

section
variable {T : Tbl} {X : Cx} {n : Nat} {x : Expr} {es : List Expr} {a : CE} {l : List CE} {k : Nat} {pos p : Pos}
theorem RepE.starOf {K : PySem.W.Frag} {R : Addr → Prop} {ad : Addr} {H : Hp} {v : V} {y : PV} {xs : List PV} (r : RepE K R ad H v y) (ho : y.isOwn = false) (e : y.seq? = some xs) : ∃ q vs, v = .ref q ∧ (SqT K H q vs ∨ SqL K H q vs) ∧ Reps K R ad H vs xs := by
  cases y with
  | tup m =>
    simp only [PV.seq?, Option.some.injEq] at e
    subst e
    obtain ⟨q, vs, rfl, h, _, rs⟩ := r.tup
    exact ⟨q, vs, rfl, .inl (SqT.of h), rs⟩
  | lst m =>
    simp only [PV.seq?, Option.some.injEq] at e
    subst e
    cases (show Rep _ _ _ _ _ _ from r) with
    | lst h _ _ rs => exact ⟨_, _, rfl, .inr (SqL.of h), rs⟩
  | own m => cases ho
  | _ => cases e
theorem cat_of {t : Bool} {y z : PV} {q : List PV × Strm} {S : Strm} (h : catQ t y q = some (z, S)) : ∃ xs, y.isOwn = false ∧ y.seq? = some xs ∧ q.1.all (fun y => !y.isOwn) = true ∧ xs.length + q.1.length ≤ LIM ∧ z = (if t then PV.tup (xs ++ q.1) else .lst (xs ++ q.1)) ∧ S = q.2 := by
  unfold catQ at h
  split at h
  · cases h
  rename_i ho
  simp only [Option.bind_eq_some_iff] at h
  obtain ⟨xs, h1, h2⟩ := h
  split at h2
  case isFalse => cases h2
  rename_i hl
  rw [Bool.and_eq_true, decide_eq_true_eq] at hl
  simp only [Option.some.injEq, Prod.mk.injEq] at h2
  exact ⟨xs, by simpa using ho, h1, hl.1, hl.2, h2.1.symm, h2.2.symm⟩
theorem pe_catT (he : PE X x (tV T X.K n a)) (h : PA X es (tVs T X.K n l)) : PE X (.Tuple (.Starred x p :: es) k pos) (tV T X.K (n + 1) (.cat true a l)) := by
  refine (pe_tup (StX.pa_star he h)).imp fun σ H Q hq => ?_
  obtain ⟨R, ad, env, S, y, S', A, e1, q⟩ := hq
  simp only [evE, Option.bind_eq_some_iff] at e1
  obtain ⟨⟨v1, S1⟩, h1, ⟨ys, S2⟩, h2, h3⟩ := e1
  obtain ⟨xs, ho, hs, hn, hl, rfl, rfl⟩ := cat_of h3
  refine ⟨R, ad, env, S, v1, S1, A, h1, fun u H1 k1 s1 r1 => ?_⟩
  obtain ⟨b, vs, rfl, hb, rs⟩ := r1.starOf ho hs
  refine ⟨b, vs, rfl, hb, R, ad, env, S1, ys, _, A.keep k1 s1, h2, fun ws H2 k2 s2 r2 => ?_⟩
  have rr := (rs.keep k2).append (r2.reps hn)
  refine ⟨LIM_le (by rw [rr.length, List.length_append]; exact hl), ?_⟩
  exact fin_tup ((A.fr.keep k1).keep k2) s2 rr fun u H3 k3 s3 r3 => q u H3 ((k1.trans k2).trans k3) s3 r3
theorem pe_catL (he : PE X x (tV T X.K n a)) (h : PA X es (tVs T X.K n l)) : PE X (.List (.Starred x p :: es) pos) (tV T X.K (n + 1) (.cat false a l)) := by
  refine (pe_lst (StX.pa_star he h)).imp fun σ H Q hq => ?_
  obtain ⟨R, ad, env, S, y, S', A, e1, q⟩ := hq
  simp only [evE, Option.bind_eq_some_iff] at e1
  obtain ⟨⟨v1, S1⟩, h1, ⟨ys, S2⟩, h2, h3⟩ := e1
  obtain ⟨xs, ho, hs, hn, hl, rfl, rfl⟩ := cat_of h3
  refine ⟨R, ad, env, S, v1, S1, A, h1, fun u H1 k1 s1 r1 => ?_⟩
  obtain ⟨b, vs, rfl, hb, rs⟩ := r1.starOf ho hs
  refine ⟨b, vs, rfl, hb, R, ad, env, S1, ys, _, A.keep k1 s1, h2, fun ws H2 k2 s2 r2 => ?_⟩
  have rr := (rs.keep k2).append (r2.reps hn)
  refine ⟨LIM_le (by rw [rr.length, List.length_append]; exact hl), ?_⟩
  exact fin_lst ((A.fr.keep k1).keep k2) s2 rr fun u H3 k3 s3 r3 => q u H3 ((k1.trans k2).trans k3) s3 r3
end
/-! ### sets -/
/-- len of a set of whole numbers -/
def rLenO (w : World) : List V → Hp → VK → Prop := fun xs H Q => ∃ (b : Addr) (S : Int → Bool) (m : Nat), xs = [.ref b] ∧ H b = some (SetO w b S m) ∧ m ≤ 1000 ∧ Q (.int m) H
theorem cr_lenO {X : Cx} (hc : X.calm = true) : CallR X (.builtin "len") (rLenO X.w) := by
  intro pins s σ H xs us Q I r h
  obtain ⟨b, S, m, rfl, hb, hm, q⟩ := h
  rw [Vals.ref1 r]
  obtain ⟨o, es, ep, t, ho, hex, hd, _, _, _, hlt, hf, hn, _⟩ := setO_get I hb
  exact call_len_set ho hex hd hf (by rw [hn]; omega) ⟨.int m, H, I.tok _, ⟨_, by rw [hn]⟩, q⟩
theorem left_of {J : It} {nn : Nat} {G : Hp → Prop} {Y : Nat → Hp → V → Hp → Prop} (w : Walk J nn G Y) {S0 : V → Hp → (Hp → Prop) → Prop} {Fin : Hp → Prop} {H0 : Hp} (Pv : Nat → Hp → Prop) (h0 : Pv 0 H0) (hG : ∀ i H, i ≤ nn → Pv i H → G H)
    (hs : ∀ i x H H', i < nn → Pv i H → Y i H x H' → S0 x H' (Pv (i + 1))) (hd : ∀ H, Pv nn H → Fin H) : ∃ W : Nat → Nat → Hp → Prop, (∃ m, W 0 m H0) ∧ Left J S0 Fin W := by
  refine ⟨fun i m H => m = nn - i ∧ i ≤ nn ∧ Pv i H, ⟨nn, by simp, Nat.zero_le _, h0⟩, ⟨?_⟩⟩
  rintro i m H ⟨rfl, hi, pv⟩
  have g := hG i H hi pv
  by_cases lt : i < nn
  · exact .inr ⟨w.goes i H lt g, Pv (i + 1), fun H' p' => ⟨nn - (i + 1), by omega, rfl, lt, p'⟩, fun x H' y => hs i x H H' lt pv (w.yields i H x H' lt g y)⟩
  · obtain rfl : i = nn := by omega
    exact .inl ⟨w.stops H g, hd H pv⟩
section
variable {K : PySem.W.Frag} {R : Addr → Prop} {a D : Addr} {H H' : Hp} {S : Strm} {σ : L2.St} {env : Env}
/-- no tuple at D -/
abbrev NoT (H : Hp) (D : Addr) : Prop := ∀ vs, H D ≠ some (.tup vs)
mutual
theorem rep_exc (k : ∀ b o, H b = some o → b ≠ a → b ≠ D → H' b = some o) (hD : NoT H D) : ∀ {v : V} {x : PV}, Rep K (but R D) a H v x → Rep K (but R D) a H' v x
  | _, _, .non => .non
  | _, _, .bl b => .bl b
  | _, _, .int i => .int i
  | _, _, .str s => .str s
  | _, _, .ty n => .ty n
  | _, _, .stm => .stm
  | _, _, .tup h n r => .tup (k _ _ h n fun z => hD _ (z ▸ h)) n (reps_exc k hD r)
  | _, _, .lst h n q r => .lst (k _ _ h n q.2) n q (reps_exc k hD r)
theorem reps_exc (k : ∀ b o, H b = some o → b ≠ a → b ≠ D → H' b = some o) (hD : NoT H D) : ∀ {vs : List V} {xs : List PV}, Reps K (but R D) a H vs xs → Reps K (but R D) a H' vs xs
  | _, _, .nil => .nil
  | _, _, .cons r rs => .cons (rep_exc k hD r) (reps_exc k hD rs)
end
theorem envE_exc (k : ∀ b o, H b = some o → b ≠ a → b ≠ D → H' b = some o) (hD : NoT H D) (e : EnvE K (but R D) a H σ env) (o : OwnNe D σ env) : EnvE K (but R D) a H' σ env := by
  refine ⟨e.len, fun i x h => ?_⟩
  obtain ⟨v, h1, h2⟩ := e.get i x h
  refine ⟨v, h1, ?_⟩
  cases x with
  | own ys =>
    obtain ⟨l2, ws, rfl, e2, n2, r2⟩ := h2
    exact ⟨l2, ws, rfl, k _ _ e2 n2 (o i ys l2 h h1), n2, reps_exc k hD r2⟩
  | _ => exact rep_exc k hD h2
theorem Keep.updO {o : HO} {H0 : Hp} (hD0 : H0 D = none) (hDa : D ≠ a) (k : Keep a H0 H) : Keep a H0 (L2.upd H D o) := by
  refine ⟨fun b u e n => ?_, fun b e => ?_, fun q r e => ?_⟩
  · rw [upd_ne (ne_of_none e hD0)]; exact k.1 b u e n
  · by_cases h : b = D
    · rw [h, upd_same]; exact fun z => by cases z
    · rw [upd_ne h]; exact k.2.1 b e
  · rw [upd_ne (Ne.symm hDa)]; exact k.2.2 q r e
theorem SRel.updX {o : HO} (hDa : D ≠ a) (s : SRel K (but R D) a H S) : SRel K (but R D) a (L2.upd H D o) S := by
  cases S with
  | none => trivial
  | some t =>
    obtain ⟨q, h1, h2, h3, h4⟩ := s
    exact ⟨q, by rw [upd_ne (Ne.symm hDa)]; exact h1, by rw [upd_ne h4.2]; exact h2, h3, h4⟩
end
theorem setO_noT {w : World} {D b : Addr} {S : Int → Bool} {m : Nat} {H : Hp} (h : H D = some (SetO w b S m)) : NoT H D := fun vs z => by
  rw [h] at z
  unfold SetO at z
  cases z
theorem len_insU {x : Int} : ∀ {ys : List Int}, ys.Pairwise (· < ·) → (insU x ys).length = if x ∈ ys then ys.length else ys.length + 1
  | [], _ => by simp [insU]
  | y :: ys, h => by
    obtain ⟨h1, h2⟩ := List.pairwise_cons.mp h
    rw [insU]
    split
    · rename_i hx
      rw [if_neg]
      · rfl
      · intro m
        rcases List.mem_cons.mp m with e | m
        · omega
        · have := h1 x m; omega
    · split
      · rename_i e
        rw [if_pos (by rw [e]; exact List.mem_cons_self)]
      · rename_i hne
        have ih := len_insU (x := x) h2
        rw [List.length_cons, ih]
        by_cases m : x ∈ ys
        · rw [if_pos m, if_pos (List.mem_cons_of_mem _ m)]; rfl
        · rw [if_neg m, if_neg (fun z => (List.mem_cons.mp z).elim hne m)]; rfl
theorem setI_snoc {l : List Int} {z : Int} : setI (l ++ [z]) = insU z (setI l) := by
  refine pw_uniq pw_setI (pw_insU pw_setI) fun y => ?_
  rw [mem_setI, mem_insU, mem_setI, List.mem_append, List.mem_singleton, or_comm]
theorem len_snoc {l : List Int} {z : Int} : (setI (l ++ [z])).length = if decide (z ∈ l) = true then (setI l).length else (setI l).length + 1 := by
  rw [setI_snoc, len_insU pw_setI]
  by_cases h : z ∈ l
  · rw [if_pos (mem_setI.mpr h), decide_eq_true h, if_pos rfl]
  · rw [if_neg fun m => h (mem_setI.mp m), decide_eq_false h, if_neg Bool.false_ne_true]
theorem len_setI : ∀ l : List Int, (setI l).length ≤ l.length
  | [] => Nat.le_refl _
  | x :: l => by
    have := len_setI l
    show (insU x (setI l)).length ≤ _
    rw [len_insU pw_setI, List.length_cons]
    split <;> omega
abbrev SetL (w : World) (D : Addr) (l : List Int) : HO := SetO w D (fun j => decide (j ∈ l)) (setI l).length
theorem setL_snoc {w : World} {D : Addr} {l : List Int} {z : Int} : SetO w D (fun j => decide (j ∈ l) || decide (j = z)) (if decide (z ∈ l) = true then (setI l).length else (setI l).length + 1) = SetL w D (l ++ [z]) := by
  unfold SetL
  rw [len_snoc]
  congr 1
  funext j
  rw [← Bool.decide_or]
  exact decide_eq_decide.mpr (by rw [List.mem_append, List.mem_singleton])
end Ws

/-! WsS3: len of a set by two clauses is worth what evE says. -/
namespace Ws
open PySem PySem.Spec PyProof.Rows L2

section
variable {T : Tbl} {X : Cx} {n : Nat} {elt' : CE} {tg' tg1' : Tg} {it' it1' : CI} {own : List (Str × Nat)}
theorem nsc_ok {σ : L2.St} {H : Hp} {Q : VK} (hin : tgIn tg' (own.map (·.2)) = true) (hq : tV T X.K (n + 1) (.nsc elt' tg' it' tg1' it1' own) σ H Q) :
    tSc2 X.w (tI T X.K true n it') (gTg X.K tg') (tI T X.K false n it1') (gTg X.K tg1') (tV T X.K n elt') (own.map (·.2)) (tgIx tg1') σ H (fun x H1 => rLenO X.w [x] H1 Q) := by
  obtain ⟨R, ad, env, S, w, S', A, e1, q⟩ := hq
  simp only [evE, Option.bind_eq_some_iff] at e1
  obtain ⟨⟨its, S1⟩, e1, ⟨ys, S2⟩, e2, e3⟩ := e1
  simp only [nscV, Option.bind_eq_some_iff] at e3
  obtain ⟨l, hl, e3⟩ := e3
  split at e3
  case isFalse => cases e3
  rename_i h63
  simp only [Option.some.injEq, Prod.mk.injEq] at e3
  obtain ⟨rfl, rfl⟩ := e3
  have hys := ints_of hl
  subst hys
  refine ⟨R, ad, env, S, its, S1, A, e1, fun J H1 k1 s1 io D hD => ?_⟩
  obtain ⟨G, Y, wk, hG, hY⟩ := io.walk
  have f1 := A.fr.keep k1
  have hDa : D ≠ ad := f1.ne hD
  refine left_of wk (fun i H' => ∃ Si acc rest, Keep ad H1 H' ∧ SRel X.K (but R D) ad H' Si ∧ H' D = some (SetL X.w D acc) ∧
    compLL (step2V (fun e env S => evE T n e env S) elt' tg' none tg1' it1' none (wipeE env (own.map (·.2)))) (its.drop i) Si = some (rest, S2) ∧ acc.map PV.int ++ rest = l.map PV.int) ?_ ?_ ?_ ?_
  · exact ⟨S1, [], l.map PV.int, Keep.upd hD, SRel.updX hDa (s1.toD hD), upd_same, e2, rfl⟩
  · rintro i H' hi ⟨Si, acc, rest, k2, _⟩
    exact hG H' fun b o e nb _ => k2.1 b o e nb
  · rintro i x H2 H3 hi ⟨Si, acc, rest, k2, s2, d2, c2, p2⟩ y3
    have nD2 : H2 D ≠ none := by rw [d2]; exact fun z => by cases z
    have f2 : Fresh (but R D) ad H2 := f1.but k2 nD2
    obtain ⟨nw, y, hy, ry⟩ := hY (but R D) H2 f2 (fun vs xs r => r.toD hD k2) i x H3 hi y3
    obtain ⟨rr, S3, rest', st, c3, ej⟩ := compLL_step c2 hy
    simp only [step2V, Option.bind_eq_some_iff] at st
    obtain ⟨env1, hb, ⟨b, S4⟩, ht, hlast⟩ := st
    simp only [testV, Option.some.injEq, Prod.mk.injEq] at ht
    obtain ⟨rfl, rfl⟩ := ht
    rw [if_pos rfl] at hlast
    simp only [Option.bind_eq_some_iff] at hlast
    obtain ⟨⟨its1, S5⟩, e5, e6⟩ := hlast
    have k3 : Keep ad H2 H3 := nw.keep
    have k13 : Keep ad H1 H3 := k2.trans k3
    have en : EnvE X.K (but R D) ad H3 (wipe σ (own.map (·.2))) (wipeE env (own.map (·.2))) := ((A.en.keep k1).toD hD k13).wipe _
    have on : OwnNe D (wipe σ (own.map (·.2))) (wipeE env (own.map (·.2))) := (OwnNe.of (A.en.keep k1) hD).wipe A.en.len _
    refine bind_okN en on ry.toE hb fun σ' en' on' hw => ⟨?_, ?_⟩
    · rw [hw _ fun i hi => by have := List.all_eq_true.mp hin i hi; simpa using this, wipe_wipe]
    have f3 : Fresh (but R D) ad H3 := f2.keep k3
    have s3 : SRel X.K (but R D) ad H3 Si := nw.srel s2
    have d3 : H3 D = some (SetL X.w D acc) := k3.1 _ _ d2 hDa
    refine ⟨but R D, ad, env1, Si, its1, S5, ⟨f3, en', s3⟩, e5, fun J1 H5 k5 s5 io1 => ?_⟩
    obtain ⟨G1, Y1, wk1, hG1, hY1⟩ := io1.walk
    have k15 : Keep ad H1 H5 := k13.trans k5
    have d5 : H5 D = some (SetL X.w D acc) := k5.1 _ _ d3 hDa
    refine left_of wk1 (fun j H' => ∃ Sj acc rest1, Keep ad H1 H' ∧ (∀ b o, H5 b = some o → b ≠ ad → b ≠ D → H' b = some o) ∧ SRel X.K (but R D) ad H' Sj ∧ H' D = some (SetL X.w D acc) ∧
      compL (stepV (fun e env S => evE T n e env S) elt' tg1' none (wipeE env1 (tgIx tg1'))) (its1.drop j) Sj = some (rest1, S3) ∧ acc.map PV.int ++ (rest1 ++ rest') = l.map PV.int) ?_ ?_ ?_ ?_
    · exact ⟨S5, acc, rr, k15, fun b o h _ _ => h, s5, d5, e6, by rw [← ej]; exact p2⟩
    · rintro j H' hj ⟨Sj, acc', rest1, k6, kk, _⟩
      refine hG1 H' fun b o e nb hh => kk b o e nb fun z => ?_
      rcases hh with hh | hh | ⟨vs, rfl⟩
      · cases hh
      · exact hh.2 z
      · exact setO_noT d5 _ (z ▸ e)
    · rintro j x1 H6 H7 hj ⟨Sj, acc6, rest1, k6, kk, s6, d6, c6, p6⟩ y7
      have nD6 : H6 D ≠ none := by rw [d6]; exact fun z => by cases z
      have f6 : Fresh (but R D) ad H6 := f1.but k6 nD6
      obtain ⟨nw7, y1, hy1, ry1⟩ := hY1 (but R D) H6 f6 (fun vs xs r => reps_exc kk (setO_noT d5) r) j x1 H7 hj y7
      obtain ⟨r1, S6, rest2, st1, c7, ej1⟩ := compL_step c6 hy1
      simp only [stepV, Option.bind_eq_some_iff] at st1
      obtain ⟨env2, hb1, ⟨b1, S7⟩, ht1, hlast1⟩ := st1
      simp only [Option.some.injEq, Prod.mk.injEq] at ht1
      obtain ⟨rfl, rfl⟩ := ht1
      rw [if_pos rfl] at hlast1
      simp only [Option.bind_eq_some_iff] at hlast1
      obtain ⟨⟨z, S9⟩, h1, h2⟩ := hlast1
      split at h2
      · cases h2
      rename_i ho
      simp only [Option.some.injEq, Prod.mk.injEq] at h2
      obtain ⟨rfl, rfl⟩ := h2
      have k7 : Keep ad H6 H7 := nw7.keep
      have k17 : Keep ad H1 H7 := k6.trans k7
      have en1 : EnvE X.K (but R D) ad H7 (wipe σ' (tgIx tg1')) (wipeE env1 (tgIx tg1')) := ((envE_exc kk (setO_noT d5) (en'.keep k5) on').keep k7).wipe _
      refine bind_ok en1 ry1.toE hb1 fun σ2 en2 hw2 => ⟨?_, ?_⟩
      · rw [hw2 _ fun i hi => hi, wipe_wipe]
      have f7 : Fresh (but R D) ad H7 := f6.keep k7
      have s7 : SRel X.K (but R D) ad H7 Sj := nw7.srel s6
      refine ⟨_, ad, env2, Sj, z, S9, ⟨f7, en2, s7⟩, h1, fun u H9 k9 s9 r9 => ?_⟩
      have d9 : H9 D = some (SetL X.w D acc6) := k9.1 _ _ (k7.1 _ _ d6 hDa) hDa
      -- the item is a whole number
      have hz : ∃ zi, z = .int zi ∧ (acc6 ++ [zi]).map PV.int ++ (rest2 ++ rest') = l.map PV.int := by
        rw [ej1] at p6
        have p6' : acc6.map PV.int ++ (z :: (rest2 ++ rest')) = l.map PV.int := p6
        obtain ⟨l1, l2, e0, e1', e2'⟩ := List.append_eq_map_iff.mp p6'
        cases l2 with
        | nil => cases e2'
        | cons zi l2 =>
          rw [List.map_cons] at e2'
          injection e2' with ea eb
          refine ⟨zi, ea.symm, ?_⟩
          rw [← p6', List.map_append, List.append_assoc, ← ea]; rfl
      obtain ⟨zi, rfl, p7⟩ := hz
      have ru := r9.int
      subst ru
      have hlen : (acc6 ++ [zi]).length ≤ 63 := by
        have := congrArg List.length p7
        rw [List.length_append, List.length_map, List.length_map] at this
        omega
      rw [List.length_append, List.length_singleton] at hlen
      have h6 := len_setI acc6
      refine ⟨D, zi, _, _, rfl, rfl, d9, by unfold scanBound; omega, ?_⟩
      rw [setL_snoc]
      refine ⟨S9, acc6 ++ [zi], rest2, ?_, ?_, SRel.updX hDa s9, upd_same, c7, p7⟩
      · exact Keep.updO hD hDa (k17.trans k9)
      · intro b o e n1 n2
        rw [upd_ne n2]
        exact k9.1 _ _ (k7.1 _ _ (kk b o e n1 n2) n1) n1
    · rintro H' ⟨Sj, acc, rest1, k6, kk, s6, d6, c6, p6⟩
      rw [List.drop_length] at c6
      simp only [compL, Option.some.injEq, Prod.mk.injEq] at c6
      obtain ⟨rfl, rfl⟩ := c6
      exact ⟨_, acc, rest', k6, s6, d6, c3, p6⟩
  · rintro H' ⟨Si, acc, rest, k2, s2, d2, c2, p2⟩
    rw [List.drop_length] at c2
    simp only [compLL, Option.some.injEq, Prod.mk.injEq] at c2
    obtain ⟨rfl, rfl⟩ := c2
    rw [List.append_nil] at p2
    have e : acc = l := List.map_inj_right (fun a b h => by cases h; rfl) |>.mp p2
    subst e
    have h6 := len_setI acc
    exact ⟨D, _, _, rfl, d2, by omega, q _ H' (k1.trans k2) (s2.mono fun b h => h.1) (Rep.int _).toE⟩
theorem pe_nscV {elt tg it tg1 it1 : Expr} {scope : Scope} {ps p pos : Pos} (hgl : Gl X "len") (hml : X.mg "len" = none)
    (hc : X.calm = true) (hN : X.N.Nodup) (hi : PI X tg it (tI T X.K true n it')) (ok : BlkOk X.N X.env.scope scope own) (hin : tgIn tg' (own.map (·.2)) = true) (hin1 : tgIn tg1' (own.map (·.2)) = true)
    (hg : ∀ s H C cl fp, PG (X.blk s H scope (compEnvC scope cl C X.env) fp) tg (gTg X.K tg')) (hi1 : ∀ s H C cl fp, PI (X.blk s H scope (compEnvC scope cl C X.env) fp) tg1 it1 (tI T X.K false n it1'))
    (hg1 : ∀ s H C cl fp, PG (X.blk s H scope (compEnvC scope cl C X.env) fp) tg1 (gTg X.K tg1')) (he : ∀ s H C cl fp, PE (X.blk s H scope (compEnvC scope cl C X.env) fp) elt (tV T X.K n elt'))
    (hs : ∀ x, foldedSetIterable it X.env x = pure x) (hs1 : ∀ env x, foldedSetIterable it1 env x = pure x) :
    PE X (.Call (.Name "len" p) [sc2 elt tg it tg1 it1 scope ps] [] pos) (tV T X.K (n + 1) (.nsc elt' tg' it' tg1' it1' own)) := by
  have inner := pe_sc2 (ps := ps) hc hN hi ok (fun i hi => by have := List.all_eq_true.mp hin1 i hi; simpa using this) hg hi1 hg1 he hs hs1
  refine (pe_callB (p := p) (pos := pos) (cr_lenO hc) hgl hml (biBoot .len) (pa_cons inner pa_nil (by rfl)) (by decide) (by decide) (by rfl) rfl).imp fun σ H Q hq => ?_
  exact nsc_ok hin hq
end
end Ws

/-! Ws10: every expression that the check takes. -/
namespace Ws
open PySem PySem.Spec PyProof.Rows L2

theorem fold_id {it : Expr} {env : PySem.Env} (h : notSet it = true) : ∀ x, foldedSetIterable it env x = pure x := by
  intro x
  cases it <;> first | rfl | (simp [notSet] at h)
theorem chkI_ev {T : Tbl} {bts N : List Str} {sc : Scope} {X : Cx} {n : Nat} {ok : Bool} {ck : Expr → CE → Bool} (g : Good T bts N sc X) (ih : ∀ e c, ck e c = true → PE X e (tV T X.K n c)) {tg e : Expr} {it : CI} (h : chkI bts ck sc tg e it = true) : PI X tg e (tI T X.K ok n it) := by
  unfold chkI at h
  split at h
  · simp only [Bool.and_eq_true, beq_iff_eq] at h
    obtain ⟨⟨⟨⟨h1, h2⟩, h3⟩, h4⟩, h5⟩ := h
    subst h1
    exact pi_rng1V (g.gl h2) (g.bt h3) (ih _ _ h5) h4
  · simp only [Bool.and_eq_true, beq_iff_eq] at h
    obtain ⟨⟨⟨⟨⟨⟨h1, h2⟩, h3⟩, h4⟩, h4'⟩, h5⟩, h5'⟩ := h
    subst h1
    exact pi_rng2V (g.gl h2) (g.bt h3) (ih _ _ h5) (ih _ _ h5') h4 h4'
  · simp only [Bool.and_eq_true, beq_iff_eq] at h
    obtain ⟨⟨⟨⟨⟨⟨⟨h1, h2⟩, h3⟩, h4⟩, h4'⟩, ht⟩, h5⟩, h5'⟩ := h
    subst h1
    cases tg with
    | Tuple es k p => exact pi_zipV (g.gl h2) (g.bt h3) (ih _ _ h5) (ih _ _ h5') h4 h4'
    | _ => simp [isTupE] at ht
  · simp only [Bool.and_eq_true, beq_iff_eq] at h
    obtain ⟨⟨⟨⟨⟨⟨⟨⟨⟨rfl, h2⟩, h3⟩, rfl⟩, h5⟩, h6⟩, h7⟩, h8⟩, h9⟩, h10⟩ := h
    exact pi_cb1V g.calm (g.gl h2) (g.cmb h3) (g.gl h5) (g.bt h6) (ih _ _ h9) (ih _ _ h10) h7 h8
  · simp only [Bool.and_eq_true, beq_iff_eq] at h
    obtain ⟨⟨⟨⟨⟨⟨⟨⟨⟨⟨⟨rfl, h2⟩, h3⟩, rfl⟩, h5⟩, h6⟩, h7⟩, h7'⟩, h8⟩, h9⟩, h9'⟩, h10⟩ := h
    exact pi_cb2V g.calm (g.gl h2) (g.cmb h3) (g.gl h5) (g.bt h6) (ih _ _ h9) (ih _ _ h9') (ih _ _ h10) h7 h7' h8
  · simp only [Bool.and_eq_true, beq_iff_eq] at h
    obtain ⟨⟨⟨⟨⟨⟨rfl, h2⟩, h3⟩, h7⟩, h8⟩, h9⟩, h10⟩ := h
    exact pi_cblV g.calm (g.gl h2) (g.cmb h3) (ih _ _ h9) (ih _ _ h10) h7 h8
  · simp only [Bool.and_eq_true, beq_iff_eq] at h
    obtain ⟨⟨⟨⟨⟨rfl, h2⟩, h3⟩, h4⟩, ht⟩, h5⟩ := h
    cases tg with
    | Tuple es k p => exact pi_enumV (g.gl h2) (g.bt h3) (ih _ _ h5) h4
    | _ => simp [isTupE] at ht
  · exact pi_seqV (ih _ _ h)
  · cases h
theorem fold_idE {it : Expr} (h : notSet it = true) : ∀ env x, foldedSetIterable it env x = pure x := fun env => fold_id h
theorem chkIf_ev {T : Tbl} {X : Cx} {n : Nat} {ck : Expr → CE → Bool} (ih : ∀ e c, ck e c = true → PT X e (tB T X.K n c)) {ifs : List Expr} {ifs' : Option CE} (h : chkIf ck ifs ifs' = true) : PTs X ifs (tIf T X.K n ifs') := by
  unfold chkIf at h
  split at h
  · exact pts_nil
  · exact pts_one (ih _ _ h)
  · cases h
theorem Good.sto {T : Tbl} {bts N : List Str} {sc : Scope} {X : Cx} (g : Good T bts N sc X) (s : Shared) (H : Hp) (scope : Scope) (C : Addr) (cl : List (Str × Addr)) (fp : List Addr) : Sto (X.blk s H scope (compEnvC scope cl C X.env) fp) N scope := by
  refine ⟨g.hN, by show X.N.Nodup; rw [g.hN]; exact g.nd, fun x h => ?_⟩
  unfold Ws.loc at h
  split at h <;> rename_i e
  · have e2 : (relS scope X.env.scope).names.lookup x = some .local := lookup_relS_keep (by decide) e
    exact ⟨.inl e2, .inr e2⟩
  · have e2 : (relS scope X.env.scope).names.lookup x = some .cell := lookup_relS_keep (by decide) e
    exact ⟨.inr e2, .inl (by show (scope.names.lookup x == some NameKind.cell) = true; rw [e]; decide)⟩
  · cases h
theorem tyBoot {s : String} (h : (["int", "str", "bool", "tuple", "list"].contains s) = true) : bootBuiltins (Str.ofString s) = some (.type s) ∧ (Str.ofString s) ≠ "__name__" ∧ ((Str.ofString s) == ("__debug__" : Str)) = false := by
  have h : s = "int" ∨ s = "str" ∨ s = "bool" ∨ s = "tuple" ∨ s = "list" := by simpa using h
  rcases h with rfl | rfl | rfl | rfl | rfl <;> exact ⟨by decide +kernel, by decide, by decide⟩
theorem btV_ty {s : String} (h : (["int", "str", "bool", "tuple", "list"].contains s) = true) : btV (Str.ofString s) = none := by
  have h : s = "int" ∨ s = "str" ∨ s = "bool" ∨ s = "tuple" ∨ s = "list" := by simpa using h
  rcases h with rfl | rfl | rfl | rfl | rfl <;> decide
theorem okN {x : Str} (h : okName x = true) : (x == ("__debug__" : Str)) = false ∧ (x == ("__classdict__" : Str)) = false := by
  unfold okName at h
  simp only [Bool.and_eq_true, Bool.not_eq_true'] at h
  exact h
theorem both {T : Tbl} {X : Cx} {n : Nat} {e : Expr} {c : CE} (he : ∀ whole, isTrue e X.env whole = (do let v ← whole; standAt e.pos; holding [v] (truthy v))) (k : PE X e (tV T X.K n c)) : PE X e (tV T X.K n c) ∧ PT X e (tB T X.K n c) := ⟨k, ptOf k he⟩
theorem ev_ok {T : Tbl} {bts N : List Str} : ∀ (m n : Nat) (sc : Scope) (X : Cx) (e : Expr) (c : CE), Good T bts N sc X → chkE bts N m sc e c = true → PE X e (tV T X.K n c) ∧ PT X e (tB T X.K n c)
  | 0, n, sc, X, e, c, g, h => by simp [chkE] at h
  | m + 1, 0, sc, X, e, c, g, h => ⟨pe_zero, pt_zero⟩
  | m + 1, n + 1, sc, X, e, c, g, h => by
    have ihP : ∀ e c, chkE bts N m sc e c = true → PE X e (tV T X.K n c) := fun e c h => (ev_ok m n sc X e c g h).1
    have ihT : ∀ e c, chkE bts N m sc e c = true → PT X e (tB T X.K n c) := fun e c h => (ev_ok m n sc X e c g h).2
    unfold chkE at h
    split at h
    · -- one of and, or
      obtain ⟨h1, h2⟩ := ev_ok m (n + 1) sc X _ _ g h
      refine ⟨pe_one h1, ?_⟩
      rename_i op x p
      cases op with
      | And => exact (pw_and1 h2).pt
      | Or => exact (pw_or1 h2).pt
    · exact both (fun _ => rfl) (pe_const (T := T) (n := n) (c := .non) (x := .non) pe_non (fun _ _ => rfl) .non)
    · rename_i b _ _ b'
      have e : b = b' := by simpa using h
      subst e
      exact both (fun _ => rfl) (pe_const (T := T) (n := n) (c := .bl b) (x := .bl b) pe_bl (fun _ _ => rfl) (.bl b))
    · rename_i b _ _ b'
      have e : b = b' := by simpa using h
      subst e
      exact both (fun _ => rfl) (pe_const (T := T) (n := n) (c := .int b) (x := .int b) pe_int (fun _ _ => rfl) (.int b))
    · rename_i b _ _ b'
      have e : b = b' := by simpa using h
      subst e
      exact both (fun _ => rfl) (pe_const (T := T) (n := n) (c := .str b) (x := .str b) pe_str (fun _ _ => rfl) (.str b))
    · simp only [Bool.and_eq_true, beq_iff_eq] at h
      obtain ⟨⟨⟨h1, h2⟩, h3⟩, h4⟩ := h
      subst h4
      rename_i p s
      obtain ⟨t1, t2, t3⟩ := tyBoot h3
      exact both (fun _ => rfl) (pe_const (T := T) (n := n) (c := .ty s) (x := .ty s) (pe_bltn (X := X) (pos := p) (v := .ty s) (g.gl h1) (g.bt h2 (btV_ty h3)) t1 rfl t2 t3) (fun _ _ => rfl) (.ty s))
    · simp only [Bool.and_eq_true] at h
      obtain ⟨⟨h1, h2⟩, h3⟩ := h
      obtain ⟨d1, d2⟩ := okN h3
      exact both (fun _ => rfl) (pe_varV (T := T) (n := n) (pe_var (X := X) (g.ix h1) (g.vis h2) d1 d2))
    · simp only [Bool.and_eq_true, beq_iff_eq] at h
      obtain ⟨⟨h1, h2⟩, h3⟩ := h
      subst h1
      obtain ⟨d1, d2⟩ := okN h3
      rename_i x p
      have k : PE X (.Name x p) (tV T X.K (n + 1) (.glo x)) := by
        refine ⟨fun pins s σ H Q I hq => ?_⟩
        obtain ⟨R, ad, env, S, w, S', A, e1, q⟩ := hq
        simp only [evE, Option.map_eq_some_iff] at e1
        obtain ⟨i, h4, h5⟩ := e1
        simp only [Prod.mk.injEq] at h5
        obtain ⟨rfl, rfl⟩ := h5
        obtain ⟨t, ht⟩ := g.glo x i h4
        exact (pe_glob (X := X) (v := .int i) (g.gl h2) ht ⟨t, rfl⟩ d1).run pins s σ H Q I (q _ H Keep.refl A.sr (Rep.int i).toE)
      exact ⟨k, ptOf k fun _ => rfl⟩
    · exact both (fun _ => rfl) (pe_tupV (pa_ev ihP _ _ h))
    · exact both (fun _ => rfl) (pe_lstV (pa_ev ihP _ _ h))
    · simp only [Bool.and_eq_true, beq_iff_eq] at h
      obtain ⟨⟨h1, h2⟩, h3⟩ := h
      subst h1
      exact both (fun _ => rfl) (pe_binV (ihP _ _ h2) (ihP _ _ h3))
    · exact both (fun _ => rfl) (pe_negV (ihP _ _ h))
    · exact ⟨pe_notV (ihP _ _ h), pt_notV (ihT _ _ h)⟩
    · simp only [Bool.and_eq_true] at h
      exact ⟨pe_andV (ihP _ _ h.1) (ihP _ _ h.2), pt_andV (ihT _ _ h.1) (ihT _ _ h.2)⟩
    · simp only [Bool.and_eq_true] at h
      exact ⟨pe_orV (ihP _ _ h.1) (ihP _ _ h.2), pt_orV (ihT _ _ h.1) (ihT _ _ h.2)⟩
    · simp only [Bool.and_eq_true, beq_iff_eq] at h
      obtain ⟨⟨⟨h1, h2⟩, h3⟩, h4⟩ := h
      subst h1
      exact pe_cmpV g.room (ihP _ _ h2) (ihP _ _ h3) h4
    · simp only [Bool.and_eq_true, beq_iff_eq] at h
      obtain ⟨⟨⟨⟨⟨h1, h1'⟩, h2⟩, h3⟩, h4⟩, h5⟩ := h
      subst h1
      subst h1'
      exact pe_chainV g.room (ihP _ _ h2) (ihP _ _ h3) (ihP _ _ h4) h5
    · simp only [Bool.and_eq_true] at h
      exact ⟨pe_iteV (ihT _ _ h.1.1) (ihP _ _ h.1.2) (ihP _ _ h.2), pt_iteV (ihT _ _ h.1.1) (ihT _ _ h.1.2) (ihT _ _ h.2)⟩
    · simp only [Bool.and_eq_true] at h
      exact both (fun _ => rfl) (pe_sliV (ihP _ _ h.1.1) (po_ev ihP _ _ h.1.2) (po_ev ihP _ _ h.2))
    · simp only [Bool.and_eq_true] at h
      refine both (fun _ => rfl) (pe_idxV (ihP _ _ h.1.1) (ihP _ _ h.1.2) ?_)
      have h2 := h.2
      split at h2
      · cases h2
      · rename_i hn
        unfold notSlice
        split
        · exact absurd rfl (hn _ _ _ _)
        · rfl
    · simp only [Bool.and_eq_true, beq_iff_eq] at h
      obtain ⟨⟨⟨h1, h2⟩, h3⟩, h4⟩ := h
      subst h1
      obtain ⟨d1, d2⟩ := okN h3
      rename_i x p y es pp l
      have k : PE X (.Call (.Name x p) (y :: es) [] pp) (tV T X.K (n + 1) (.call x l)) := by
        cases hT : T.fn x with
        | none => exact ⟨fun _ _ _ _ _ _ ⟨_, _, _, _, _, _, _, e, _⟩ => by simp [evE, hT] at e⟩
        | some φ => 
          have t : chkL (chkE bts N m sc) es l.tail = true := by
            cases l with
            | nil => simp [chkL] at h4
            | cons a l => simp only [chkL, Bool.and_eq_true] at h4; exact h4.2
          exact pe_callV hT (g.fns x φ hT) (g.gl h2) d1 (pa_ev ihP _ _ h4) (chkL_ne h4) (chkL_plain t)
      exact ⟨k, ptOf k fun _ => rfl⟩
    · simp only [Bool.and_eq_true, beq_iff_eq] at h
      obtain ⟨⟨⟨h1, h2⟩, h3⟩, h4⟩ := h
      subst h1
      rename_i p y es _ b l
      have t : chkL (chkE bts N m sc) es l.tail = true := by
        cases l with
        | nil => simp [chkL] at h4
        | cons a l => simp only [chkL, Bool.and_eq_true] at h4; exact h4.2
      exact both (fun _ => rfl) (pe_biV (T := T) (n := n) (p := p) (ck := chkE bts N m sc) g.room g.calm (g.gl h2) (g.bt h3 (btV_bi _)) (pa_ev ihP _ _ h4) (chkL_ne h4) (chkL_plain t))
    · simp only [Bool.and_eq_true] at h
      obtain ⟨⟨⟨⟨⟨⟨h1, h2⟩, h3⟩, h4⟩, h5⟩, h6⟩, h7⟩ := h
      rename_i elt tg it ifs scope p elt' tg' it' ifs' own
      have k : PE X (.ListComp elt [⟨tg, it, ifs, 0⟩] scope p) (tV T X.K (n + 1) (.comp elt' tg' it' ifs' own)) := by
        refine pe_compV g.calm (by rw [g.hN]; exact g.nd) (chkI_ev g ihP h1) (blkOk_by (by rw [g.hN, g.hs]; exact h3)) h5 (fun s H C cl fp => pg_ev (X := X.blk s H scope (compEnvC scope cl C X.env) fp) g.calm (g.sto s H scope C cl fp) h4) (fun s H C cl fp => ?_) (fun s H C cl fp => (ev_ok m n _ _ _ _ (g.blk s H scope C cl fp) h7).1) (fold_id h2)
        cases ifs with
        | nil =>
          cases ifs' with
          | none => exact pts_nil
          | some d => cases h6
        | cons d r =>
          cases r with
          | cons _ _ => cases ifs' <;> cases h6
          | nil =>
            cases ifs' with
            | none => cases h6
            | some d' => exact pts_one (ev_ok m n _ _ _ _ (g.blk s H scope C cl fp) h6).2
      exact ⟨k, ptOf k fun _ => rfl⟩
    · simp only [Bool.and_eq_true] at h
      obtain ⟨⟨⟨⟨⟨⟨⟨⟨⟨⟨⟨h1, h2⟩, h2'⟩, h3⟩, h4⟩, h5⟩, h6⟩, h7⟩, h8⟩, h9⟩, h10⟩, h11⟩ := h
      rename_i elt tg it ifs tg1 it1 ifs1 scope p elt' tg' it' ifs' tg1' it1' ifs1' own
      have k : PE X (.ListComp elt [⟨tg, it, ifs, 0⟩, ⟨tg1, it1, ifs1, 0⟩] scope p) (tV T X.K (n + 1) (.comp2 elt' tg' it' ifs' tg1' it1' ifs1' own)) := by
        have gb := fun s H C cl fp => g.blk s H scope C cl fp
        refine pe_comp2V g.calm (by rw [g.hN]; exact g.nd) (chkI_ev g ihP h1) (blkOk_by (by rw [g.hN, g.hs]; exact h3)) h5 h7
          (fun s H C cl fp => pg_ev (X := X.blk s H scope (compEnvC scope cl C X.env) fp) g.calm (g.sto s H scope C cl fp) h4)
          (fun s H C cl fp => chkIf_ev (fun e c hh => (ev_ok m n _ _ e c (gb s H C cl fp) hh).2) h9)
          (fun s H C cl fp => chkI_ev (gb s H C cl fp) (fun e c hh => (ev_ok m n _ _ e c (gb s H C cl fp) hh).1) h8)
          (fun s H C cl fp => pg_ev (X := X.blk s H scope (compEnvC scope cl C X.env) fp) g.calm (g.sto s H scope C cl fp) h6)
          (fun s H C cl fp => chkIf_ev (fun e c hh => (ev_ok m n _ _ e c (gb s H C cl fp) hh).2) h10)
          (fun s H C cl fp => (ev_ok m n _ _ _ _ (gb s H C cl fp) h11).1) (fold_id h2) (fold_idE h2')
      exact ⟨k, ptOf k fun _ => rfl⟩
    · simp only [Bool.and_eq_true, beq_iff_eq] at h
      obtain ⟨h1, h2⟩ := h
      subst h1
      exact both (fun _ => rfl) (pe_revV (ihP _ _ h2))
    · simp only [Bool.and_eq_true, beq_iff_eq] at h
      obtain ⟨⟨⟨⟨⟨⟨⟨h1, h2⟩, h3⟩, h4⟩, h5⟩, h6⟩, h7⟩, h8⟩ := h
      subst h1 h4
      exact both (fun _ => rfl) (pe_ssetV g.calm (g.gl h2) (g.bt h3 (by decide)) (g.gl h5) (g.bt h6 (by decide)) (ihP _ _ h8) h7)
    · simp only [Bool.and_eq_true, beq_iff_eq] at h
      obtain ⟨⟨⟨⟨⟨⟨h1, h2⟩, h3⟩, h4⟩, h5⟩, h6⟩, h7⟩ := h
      subst h1
      exact both (fun _ => rfl) (pe_gcdV (g.gl h2) (g.gcd h3) (ihP _ _ h6) (ihP _ _ h7) h4 h5)
    · simp only [Bool.and_eq_true, beq_iff_eq] at h
      obtain ⟨⟨⟨⟨⟨⟨⟨h1, h2⟩, h3⟩, h4⟩, h5⟩, h6⟩, h7⟩, h8⟩ := h
      subst h4
      exact both (fun _ => rfl) (pe_rg1V h1 g.calm (g.gl h2) (g.bt h3 (by rw [h1]; split <;> decide)) (g.gl h5) (g.bt h6) (ihP _ _ h8) h7)
    · simp only [Bool.and_eq_true, beq_iff_eq] at h
      obtain ⟨⟨⟨⟨⟨⟨⟨⟨⟨h1, h2⟩, h3⟩, h4⟩, h5⟩, h6⟩, h7⟩, h8⟩, h9⟩, h10⟩ := h
      subst h4
      exact both (fun _ => rfl) (pe_rg2V h1 g.calm (g.gl h2) (g.bt h3 (by rw [h1]; split <;> decide)) (g.gl h5) (g.bt h6) (ihP _ _ h9) (ihP _ _ h10) h7 h8)
    · simp only [Bool.and_eq_true] at h
      obtain ⟨⟨h1, h2⟩, h3⟩ := h
      subst h1
      exact both (fun _ => rfl) (pe_catT (ihP _ _ h2) (pa_ev ihP _ _ h3))
    · simp only [Bool.and_eq_true, Bool.not_eq_true'] at h
      obtain ⟨⟨h1, h2⟩, h3⟩ := h
      subst h1
      exact both (fun _ => rfl) (pe_catL (ihP _ _ h2) (pa_ev ihP _ _ h3))
    · simp only [Bool.and_eq_true, beq_iff_eq] at h
      obtain ⟨⟨⟨⟨⟨⟨⟨⟨⟨⟨⟨⟨h1, h2⟩, h3⟩, h4⟩, h5⟩, h6⟩, h7⟩, h8⟩, h9⟩, h10⟩, h11⟩, h12⟩, h13⟩ := h
      subst h1
      rename_i p0 elt tg it tg1 it1 scope p1 p2 elt' tg' it' tg1' it1' own
      have gb := fun s H C cl fp => g.blk s H scope C cl fp
      exact both (fun _ => rfl) (pe_nscV (g.gl h2) (g.bt h3 (by decide)) g.calm (by rw [g.hN]; exact g.nd) (chkI_ev g ihP h4) (blkOk_by (by rw [g.hN, g.hs]; exact h7)) h9 h11
        (fun s H C cl fp => pg_ev (X := X.blk s H scope (compEnvC scope cl C X.env) fp) g.calm (g.sto s H scope C cl fp) h8)
        (fun s H C cl fp => chkI_ev (gb s H C cl fp) (fun e c hh => (ev_ok m n _ _ e c (gb s H C cl fp) hh).1) h12)
        (fun s H C cl fp => pg_ev (X := X.blk s H scope (compEnvC scope cl C X.env) fp) g.calm (g.sto s H scope C cl fp) h10)
        (fun s H C cl fp => (ev_ok m n _ _ _ _ (gb s H C cl fp) h13).1) (fold_id h5) (fold_idE h6))
    · cases h
end Ws

/-! Ws11: where a def's body stands between two statements. -/
namespace Ws
open PySem PySem.Spec PyProof.Rows L2

abbrev nO (R : Addr → Prop) (O : Addr → Prop) : Addr → Prop := fun b => R b ∧ ¬ O b
/-- O: the lists that a name holds alone; H0: the heap at the entry -/
structure StR (K : PySem.W.Frag) (R : Addr → Prop) (a : Addr) (H0 : Hp) (O : Addr → Prop) (σ : L2.St) (H : Hp) (env : Env) (S : Strm) : Prop where
  f0 : Fresh R a H0
  kp : Keep a H0 H
  ow : ∀ b, O b → (∃ vs, H b = some (.lst vs)) ∧ H0 b = none ∧ b ≠ a
  en : EnvE K (nO R O) a H σ env
  od : ∀ (i : Nat) (xs : List PV), env[i]? = some (some (.own xs)) → ∃ l : Addr, σ[i]? = some (some (.ref l)) ∧ O l
  ds : ∀ (i j : Nat) (xs ys : List PV), env[i]? = some (some (.own xs)) → env[j]? = some (some (.own ys)) → i ≠ j → σ[i]? ≠ σ[j]?
  sr : SRel K (nO R O) a H S
/-- what a run of statements leaves -/
structure Ev (a : Addr) (O : Addr → Prop) (H : Hp) (O' : Addr → Prop) (H' : Hp) : Prop where
  kp : ∀ b o, H b = some o → b ≠ a → ¬ O b → H' b = some o ∧ ¬ O' b
theorem Ev.refl {a : Addr} {O : Addr → Prop} {H : Hp} : Ev a O H O H := ⟨fun _ _ h _ n => ⟨h, n⟩⟩
theorem Ev.trans {a : Addr} {O O1 O2 : Addr → Prop} {H H1 H2 : Hp} (x : Ev a O H O1 H1) (y : Ev a O1 H1 O2 H2) : Ev a O H O2 H2 :=
  ⟨fun b o h n q => let ⟨h1, n1⟩ := x.kp b o h n q; y.kp b o h1 n n1⟩
theorem Ev.of {a : Addr} {O : Addr → Prop} {H H' : Hp} (k : Keep a H H') : Ev a O H O H' := ⟨fun b o h n q => ⟨k.1 b o h n, q⟩⟩
section
variable {K : PySem.W.Frag} {R : Addr → Prop} {a : Addr} {H0 H H1 : Hp} {O : Addr → Prop} {σ : L2.St} {env : Env} {S S1 : Strm}
theorem StR.fr (s : StR K R a H0 O σ H env S) : Fresh (nO R O) a H := ⟨fun b h => ⟨s.f0.fc b (s.kp.fresh h), fun o => by obtain ⟨⟨vs, e⟩, _⟩ := s.ow b o; rw [h] at e; cases e⟩, fun h => s.f0.na h.1⟩
theorem StR.at (s : StR K R a H0 O σ H env S) : At K σ H (nO R O) a env S := ⟨s.fr, s.en, s.sr⟩
theorem StR.step (s : StR K R a H0 O σ H env S) (k : Keep a H H1) (r : SRel K (nO R O) a H1 S1) : StR K R a H0 O σ H1 env S1 :=
  ⟨s.f0, s.kp.trans k, fun b o => let ⟨⟨vs, e⟩, h2, h3⟩ := s.ow b o; ⟨⟨vs, k.1 _ _ e h3⟩, h2, h3⟩, s.en.keep k, s.od, s.ds, r⟩
theorem nO_le {b : Addr} (h : nO R O b) : R b := h.1
/-- a name gets a value that is no owned list -/
theorem StR.set (s : StR K R a H0 O σ H env S) {v : V} {x : PV} (r : Rep K (nO R O) a H v x) (i : Nat) : StR K R a H0 O (σ.set i (some v)) H (env.set i (some x)) S := by
  have hn := r.noOwn
  have old : ∀ (j : Nat) (xs : List PV), (env.set i (some x))[j]? = some (some (.own xs)) → j ≠ i ∧ env[j]? = some (some (.own xs)) := fun j xs h => by
    by_cases hj : i = j
    · subst hj
      by_cases hi : i < env.length
      · rw [List.getElem?_set_self hi] at h
        cases h
        simp [PV.isOwn] at hn
      · rw [List.getElem?_eq_none (by simpa using hi)] at h
        cases h
    · rw [List.getElem?_set_ne hj] at h
      exact ⟨Ne.symm hj, h⟩
  refine ⟨s.f0, s.kp, s.ow, s.en.set r.toE i, fun j xs h => ?_, fun j k xs ys h1 h2 hne => ?_, s.sr⟩
  · obtain ⟨n, h'⟩ := old j xs h
    rw [List.getElem?_set_ne (Ne.symm n)]
    exact s.od j xs h'
  · obtain ⟨n1, h1'⟩ := old j xs h1
    obtain ⟨n2, h2'⟩ := old k ys h2
    rw [List.getElem?_set_ne (Ne.symm n1), List.getElem?_set_ne (Ne.symm n2)]
    exact s.ds j k xs ys h1' h2' hne
theorem StR.sets (l : List Nat) : ∀ {vs : List V} {xs : List PV} {σ : L2.St} {env : Env}, StR K R a H0 O σ H env S → Reps K (nO R O) a H vs xs → xs.length = l.length → ∀ {Q : L2.St → Hp → Prop},
    (∀ σ', StR K R a H0 O σ' H ((l.zip xs).foldl (fun e p => e.set p.1 (some p.2)) env) S → Q σ' H) → gNms l vs σ H Q := by
  induction l with
  | nil =>
    intro vs xs σ env s r hl Q q
    cases r with
    | nil => exact ⟨rfl, q σ s⟩
    | cons _ _ => simp at hl
  | cons i l ih =>
    intro vs xs σ env s r hl Q q
    cases r with
    | nil => simp at hl
    | cons r rs => exact ⟨_, _, rfl, ih (s.set r i) rs (by simpa using hl) q⟩
theorem StR.bind (s : StR K R a H0 O σ H env S) {t : Tg} {v : V} {x : PV} {env' : Env} {Q : L2.St → Hp → Prop} (r : RepE K (nO R O) a H v x) (hb : bindT t x env = some env')
    (q : ∀ σ', StR K R a H0 O σ' H env' S → Q σ' H) : gTg K t v σ H Q := by
  cases t with
  | nm i =>
    simp only [bindT] at hb
    split at hb
    · cases hb
    · rename_i ho
      simp only [Option.some.injEq] at hb
      subst hb
      exact q _ (s.set (r.rep (by simpa using ho)) i)
  | tp l =>
    simp only [bindT] at hb
    split at hb
    · rename_i xs
      split at hb
      · rename_i hl
        simp only [Option.some.injEq] at hb
        subst hb
        obtain ⟨p, vs, rfl, h1, n1, rs⟩ := r.tup
        exact .inl ⟨p, vs, rfl, SqT.of h1, by rw [rs.length]; exact hl, s.sets l rs hl q⟩
      · cases hb
    · rename_i xs
      split at hb
      · rename_i hl
        simp only [Option.some.injEq] at hb
        subst hb
        cases (show Rep K (nO R O) a H v (.lst xs) from r) with
        | lst h1 n1 q1 rs => exact .inr ⟨_, _, rfl, SqL.of h1, by rw [rs.length]; exact hl, s.sets l rs hl q⟩
      · cases hb
    · cases hb
  | ns l j =>
    simp only [bindT] at hb
    split at hb
    · rename_i xs y
      split at hb
      · rename_i hl
        simp only [Option.some.injEq] at hb
        subst hb
        obtain ⟨p, vs, rfl, h1, n1, rs⟩ := r.tup
        cases rs with
        | cons r0 rs =>
          cases rs with
          | cons r1 rs =>
            cases rs with
            | nil =>
              obtain ⟨p2, vs2, rfl, h2, n2, rs2⟩ := r0.toE.tup
              exact ⟨p, _, rfl, SqT.of h1, rfl, _, _, rfl, p2, vs2, rfl, SqT.of h2, by rw [rs2.length]; exact hl, s.sets l rs2 hl fun σ' s' => ⟨_, _, rfl, rfl, q _ (s'.set r1 j)⟩⟩
      · cases hb
    · cases hb
/-- a new list that a name holds alone -/
theorem StR.newO (s : StR K R a H0 O σ H env S) (k : Keep a H H1) (r : SRel K (nO R O) a H1 S1) (hS : (S.isSome || S1.isNone) = true) {p : Addr} {vs : List V} {xs : List PV} (hp : H p = none) (hp1 : H1 p = some (.lst vs)) (rs : Reps K (nO (nO R O) (· = p)) a H1 vs xs) {i : Nat} (hi : i < env.length) :
    StR K R a H0 (fun b => O b ∨ b = p) (σ.set i (some (.ref p))) H1 (env.set i (some (.own xs))) S1 := by
  have hpa : p ≠ a := s.fr.ne hp
  have hO : ∀ b, O b → b ≠ p := fun b o e => by obtain ⟨⟨ws, h⟩, _⟩ := s.ow b o; rw [e, hp] at h; cases h
  have le : ∀ b, nO (nO R O) (· = p) b → nO R (fun b => O b ∨ b = p) b := fun b ⟨⟨h1, h2⟩, h3⟩ => ⟨h1, fun z => z.elim h2 h3⟩
  have hσ : i < σ.length := by rw [s.en.len]; exact hi
  have old : ∀ (j : Nat) (ys : List PV), j ≠ i → (env.set i (some (.own xs)))[j]? = some (some (.own ys)) → env[j]? = some (some (.own ys)) := fun j ys n h => by rwa [List.getElem?_set_ne (Ne.symm n)] at h
  have sp : ∀ j : Nat, j ≠ i → (σ.set i (some (V.ref p)))[j]? = σ[j]? := fun j n => List.getElem?_set_ne (Ne.symm n)
  have notp : ∀ (j : Nat) (ys : List PV), env[j]? = some (some (.own ys)) → σ[j]? ≠ some (some (.ref p)) := fun j ys h e => by
    obtain ⟨l, h1, h2⟩ := s.od j ys h
    rw [e] at h1
    cases h1
    exact hO _ h2 rfl
  have enD := (s.en.toD (D := p) hp k)
  refine ⟨s.f0, s.kp.trans k, fun b o => ?_, ?_, fun j ys h => ?_, fun j m ys zs h1 h2 hne => ?_, ?_⟩
  · rcases o with o | rfl
    · obtain ⟨⟨ws, e⟩, h2, h3⟩ := s.ow b o
      exact ⟨⟨ws, k.1 _ _ e h3⟩, h2, h3⟩
    · exact ⟨⟨vs, hp1⟩, s.kp.fresh hp, hpa⟩
  · have e1 : EnvE K (nO R (fun b => O b ∨ b = p)) a H1 σ env := ⟨enD.len, fun j x h => by
      obtain ⟨v, h1, h2⟩ := enD.get j x h
      refine ⟨v, h1, ?_⟩
      cases x with
      | own zs => obtain ⟨l, ws, q1, q2, q3, q4⟩ := h2; exact ⟨l, ws, q1, q2, q3, q4.mono le Keep.refl⟩
      | _ => exact Rep.mono le Keep.refl h2⟩
    exact e1.set (x := .own xs) (v := .ref p) ⟨p, vs, rfl, hp1, hpa, rs.mono le Keep.refl⟩ i
  · by_cases hj : j = i
    · subst hj
      exact ⟨p, List.getElem?_set_self hσ, .inr rfl⟩
    · obtain ⟨l, h1, h2⟩ := s.od j ys (old j ys hj h)
      exact ⟨l, by rw [sp j hj]; exact h1, .inl h2⟩
  · by_cases hj : j = i
    · subst hj
      have hm : m ≠ j := Ne.symm hne
      rw [sp m hm, List.getElem?_set_self hσ]
      exact fun e => notp m zs (old m zs hm h2) e.symm
    · by_cases hm : m = i
      · subst hm
        rw [sp j hj, List.getElem?_set_self hσ]
        exact notp j ys (old j ys hj h1)
      · rw [sp j hj, sp m hm]
        exact s.ds j m ys zs (old j ys hj h1) (old m zs hm h2) hne
  · cases S1 with
    | none => trivial
    | some t =>
      obtain ⟨scr, c, kk⟩ := t
      obtain ⟨q, h1, h2, h3, h4⟩ := r
      refine ⟨q, h1, h2, h3, h4.1, fun z => z.elim h4.2 fun e => ?_⟩
      subst e
      cases S with
      | none => simp at hS
      | some t0 =>
        obtain ⟨scr0, c0, k0⟩ := t0
        obtain ⟨q0, g1, g2, g3, g4⟩ := s.sr
        obtain ⟨r', e⟩ := k.2.2 _ _ g1
        rw [h1] at e
        have e2 : q = q0 := by
          injection e with e
          injection e with e
          injection e with e _
          injection e
        rw [e2, g2] at hp
        cases hp
theorem Ev.newO (s : StR K R a H0 O σ H env S) (k : Keep a H H1) {p : Addr} (hp : H p = none) : Ev a O H (fun b => O b ∨ b = p) H1 :=
  ⟨fun b o h n q => ⟨k.1 b o h n, fun z => z.elim q fun e => by rw [e, hp] at h; cases h⟩⟩

mutual
theorem Rep.updN {R' : Addr → Prop} {l : Addr} {vs vs' : List V} (hR : ∀ b, R' b → b ≠ l) (hD : H l = some (.lst vs)) : ∀ {v : V} {x : PV}, Rep K R' a H v x → Rep K R' a (L2.upd H l (.lst vs')) v x
  | _, _, .non => .non
  | _, _, .bl b => .bl b
  | _, _, .int i => .int i
  | _, _, .str s => .str s
  | _, _, .ty n => .ty n
  | _, _, .stm => .stm
  | _, _, .tup h n r => .tup (by rw [upd_ne (ne_of h hD (fun z => by cases z))]; exact h) n (Reps.updN hR hD r)
  | _, _, .lst h n q r => .lst (by rw [upd_ne (hR _ q)]; exact h) n q (Reps.updN hR hD r)
theorem Reps.updN {R' : Addr → Prop} {l : Addr} {vs vs' : List V} (hR : ∀ b, R' b → b ≠ l) (hD : H l = some (.lst vs)) : ∀ {vs0 : List V} {xs : List PV}, Reps K R' a H vs0 xs → Reps K R' a (L2.upd H l (.lst vs')) vs0 xs
  | _, _, .nil => .nil
  | _, _, .cons r rs => .cons (Rep.updN hR hD r) (Reps.updN hR hD rs)
end
/-- the owned list of a name: where it lies -/
theorem StR.own (s : StR K R a H0 O σ H env S) {i : Nat} {xs : List PV} (h : env[i]? = some (some (.own xs))) : ∃ l vs, σ[i]? = some (some (.ref l)) ∧ O l ∧ H l = some (.lst vs) ∧ l ≠ a ∧ Reps K (nO R O) a H vs xs := by
  obtain ⟨l, h1, h2⟩ := s.od i xs h
  obtain ⟨v, h3, l', vs, rfl, h4, h5, h6⟩ := s.en.get i _ h
  rw [h1] at h3
  cases h3
  exact ⟨l, vs, h1, h2, h4, h5, h6⟩
/-- it is changed -/
theorem StR.mut (s : StR K R a H0 O σ H env S) {i : Nat} {xs xs' : List PV} {l : Addr} {vs vs' : List V} (h : env[i]? = some (some (.own xs))) (hl : σ[i]? = some (some (.ref l))) (hO : O l) (hv : H l = some (.lst vs)) (rs : Reps K (nO R O) a H vs' xs') :
    StR K R a H0 O σ (L2.upd H l (.lst vs')) (env.set i (some (.own xs'))) S ∧ Ev a O H O (L2.upd H l (.lst vs')) := by
  obtain ⟨⟨_, _⟩, hl0, hla⟩ := s.ow l hO
  have hR : ∀ b, nO R O b → b ≠ l := fun b h e => h.2 (e ▸ hO)
  have hi : i < env.length := (List.getElem?_eq_some_iff.mp h).1
  have old : ∀ (j : Nat) (ys : List PV), j ≠ i → (env.set i (some (.own xs')))[j]? = some (some (.own ys)) → env[j]? = some (some (.own ys)) := fun j ys n h => by rwa [List.getElem?_set_ne (Ne.symm n)] at h
  have isown : ∀ (j : Nat) (ys : List PV), (env.set i (some (.own xs')))[j]? = some (some (.own ys)) → ∃ zs, env[j]? = some (some (.own zs)) := fun j ys g => by
    by_cases hj : j = i
    · subst hj; exact ⟨xs, h⟩
    · exact ⟨ys, old j ys hj g⟩
  refine ⟨⟨s.f0, Keep.updD hl0 hla s.kp, fun b o => ?_, ⟨by rw [List.length_set]; exact s.en.len, fun j x g => ?_⟩, fun j ys g => ?_, fun j m ys zs g1 g2 hne => ?_, ?_⟩, ⟨fun b o e n q => ⟨?_, q⟩⟩⟩
  · obtain ⟨⟨ws, e⟩, h2, h3⟩ := s.ow b o
    by_cases hb : b = l
    · subst hb; exact ⟨⟨vs', upd_same⟩, h2, h3⟩
    · exact ⟨⟨ws, by rw [upd_ne hb]; exact e⟩, h2, h3⟩
  · by_cases hj : j = i
    · subst hj
      rw [List.getElem?_set_self hi] at g
      cases g
      exact ⟨_, hl, l, vs', rfl, upd_same, hla, rs.updN hR hv⟩
    · rw [List.getElem?_set_ne (Ne.symm hj)] at g
      obtain ⟨v, g1, g2⟩ := s.en.get j x g
      refine ⟨v, g1, ?_⟩
      cases x with
      | own ys =>
        obtain ⟨l2, ws, rfl, e2, n2, r2⟩ := g2
        have hne : l2 ≠ l := fun e => by
          have := s.ds i j xs ys h g (Ne.symm hj)
          rw [hl, g1, e] at this
          exact this rfl
        exact ⟨l2, ws, rfl, by rw [upd_ne hne]; exact e2, n2, r2.updN hR hv⟩
      | _ => exact Rep.updN hR hv g2
  · obtain ⟨zs, g'⟩ := isown j ys g
    exact s.od j zs g'
  · obtain ⟨ys', g1'⟩ := isown j ys g1
    obtain ⟨zs', g2'⟩ := isown m zs g2
    exact s.ds j m ys' zs' g1' g2' hne
  · have r := s.sr
    cases S with
    | none => trivial
    | some t =>
      obtain ⟨scr, c, kk⟩ := t
      obtain ⟨q, h1, h2, h3, h4⟩ := r
      exact ⟨q, by rw [upd_ne (Ne.symm hla)]; exact h1, by rw [upd_ne (hR q h4)]; exact h2, h3, h4⟩
  · rw [upd_ne (fun (z : b = l) => q (by rw [z]; exact hO))]; exact e
/-- it is changed no more -/
theorem StR.frz (s : StR K R a H0 O σ H env S) {i : Nat} {xs : List PV} (h : env[i]? = some (some (.own xs))) : ∃ O', StR K R a H0 O' σ H (env.set i (some (.lst xs))) S ∧ ∀ b, O' b → O b := by
  obtain ⟨l, vs, hl, hO, hv, hla, rs⟩ := s.own h
  have hi : i < env.length := (List.getElem?_eq_some_iff.mp h).1
  have le : ∀ b, nO R O b → nO R (fun b => O b ∧ b ≠ l) b := fun b hb => ⟨hb.1, fun z => hb.2 z.1⟩
  have old : ∀ (j : Nat) (ys : List PV), (env.set i (some (.lst xs)))[j]? = some (some (.own ys)) → j ≠ i ∧ env[j]? = some (some (.own ys)) := fun j ys g => by
    by_cases hj : j = i
    · subst hj
      rw [List.getElem?_set_self hi] at g
      cases g
    · rw [List.getElem?_set_ne (Ne.symm hj)] at g
      exact ⟨hj, g⟩
  refine ⟨fun b => O b ∧ b ≠ l, ⟨s.f0, s.kp, fun b o => s.ow b o.1, ⟨by rw [List.length_set]; exact s.en.len, fun j x g => ?_⟩, fun j ys g => ?_, fun j m ys zs g1 g2 hne => ?_, s.sr.mono le⟩, fun b o => o.1⟩
  · by_cases hj : j = i
    · subst hj
      rw [List.getElem?_set_self hi] at g
      cases g
      exact ⟨_, hl, show Rep _ _ _ _ _ _ from .lst hv hla ⟨s.f0.fc l (s.ow l hO).2.1, fun z => z.2 rfl⟩ (rs.mono le Keep.refl)⟩
    · rw [List.getElem?_set_ne (Ne.symm hj)] at g
      obtain ⟨v, g1, g2⟩ := s.en.get j x g
      refine ⟨v, g1, ?_⟩
      cases x with
      | own ys => obtain ⟨l2, ws, q1, q2, q3, q4⟩ := g2; exact ⟨l2, ws, q1, q2, q3, q4.mono le Keep.refl⟩
      | _ => exact Rep.mono le Keep.refl g2
  · obtain ⟨n, g'⟩ := old j ys g
    obtain ⟨l2, g1, g2⟩ := s.od j ys g'
    refine ⟨l2, g1, g2, fun e => ?_⟩
    have := s.ds i j xs ys h g' (Ne.symm n)
    rw [hl, g1, e] at this
    exact this rfl
  · obtain ⟨_, g1'⟩ := old j ys g1
    obtain ⟨_, g2'⟩ := old m zs g2
    exact s.ds j m ys zs g1' g2' hne
end
end Ws

/-! Ws12: statements are worth what evS says. -/
namespace Ws
open PySem PySem.Spec PyProof.Rows L2

theorem _root_.L2.PS.imp {X : Cx} {st : Stmt} {t t' : TS} (h : PS X st t) (m : ∀ D σ H, t' D σ H → t D σ H) : PS X st t' := ⟨fun pins s σ H D I q => h.run pins s σ H D I (m D σ H q)⟩
theorem _root_.L2.PSs.imp {X : Cx} {st : List Stmt} {t t' : TS} (h : PSs X st t) (m : ∀ D σ H, t' D σ H → t D σ H) : PSs X st t' := ⟨fun pins s σ H D I q => h.run pins s σ H D I (m D σ H q)⟩

section
variable (T : Tbl) (K : PySem.W.Frag) (R : Addr → Prop) (a : Addr) (H0 : Hp)
/-- what is wanted behind -/
def Post (D : Ends) (O : Addr → Prop) (H : Hp) (fl : Fl) (S' : Strm) : Prop :=
  match fl with
  | .nx env' => ∀ O' σ' H', Ev a O H O' H' → StR K R a H0 O' σ' H' env' S' → D.nx σ' H'
  | .rt x => ∀ v H', Keep a H0 H' → SRel K R a H' S' → Rep K R a H' v x → D.rt v H'
def tS (n : Nat) (c : CS) : TS := fun D σ H => ∃ O env S fl S', StR K R a H0 O σ H env S ∧ evS T n c env S = some (fl, S') ∧ Post K R a H0 D O H fl S'
def tSs (n : Nat) (l : List CS) : TS := fun D σ H => ∃ O env S fl S', StR K R a H0 O σ H env S ∧ seqL (fun c env S => evS T n c env S) l env S = some (fl, S') ∧ Post K R a H0 D O H fl S'
end
section
variable {T : Tbl} {K : PySem.W.Frag} {R : Addr → Prop} {a : Addr} {H0 : Hp}
theorem Post.from {D : Ends} {O O1 : Addr → Prop} {H H1 : Hp} {fl : Fl} {S' : Strm} (p : Post K R a H0 D O H fl S') (e : Ev a O H O1 H1) : Post K R a H0 D O1 H1 fl S' := by
  cases fl with
  | nx env' => exact fun O' σ' H' e' s => p O' σ' H' (e.trans e') s
  | rt x => exact p
end

/-- where statements run -/
structure GoodS (T : Tbl) (bts N : List Str) (sc : Scope) (X : Cx) : Prop extends Good T bts N sc X where
  kind : sc.kind = .function
  fn : ∀ x, X.fn x = true
  pass : PassesOwn (model X.prog X.w) X.A X.env X.xe
theorem GoodS.sto {T : Tbl} {bts N : List Str} {sc : Scope} {X : Cx} (g : GoodS T bts N sc X) : Sto X N sc := by
  refine ⟨g.hN, by rw [g.hN]; exact g.nd, fun x h => ⟨g.toGood.loc h, .inl (g.fn x)⟩⟩

/-! ### name = e -/
/-- the store within a comprehension's own frame -/
def swC (sc scope : Scope) (t : Str) (p1 p2 : Pos) : Bool := sc.names.lookup t == some .local && (p1.line == p2.line) && !(scope.names.any fun (n, k) => n == t && (k == .local || k == .cell))
section
variable {X : Cx} {n i : Nat} {y : Str} {py pos : Pos}
/-- no comprehension of another kind -/
def noComp : Expr → Bool
  | .ListComp _ _ _ _ => false
  | .SetComp _ _ _ _ => false
  | .DictComp _ _ _ _ _ => false
  | _ => true
theorem sw_no {e : Expr} {tg : Option Expr} {l : Nat} {env : PySem.Env} (h : noComp e = true) : swapsWith e tg l env = pure false := by
  cases e <;> first | rfl | (simp [noComp] at h)
theorem sw_comp {elt : Expr} {gs : List Comprehension} {scope : Scope} {p : Pos} {l : Nat} (hk : X.env.scope.kind = .function) : swapsWith (.ListComp elt gs scope p) (some (.Name y py)) l X.env = pure (swC X.env.scope scope y py p) := by
  have hb : X.env.blockKind = .function := by unfold Env.blockKind; rw [hk]; rfl
  unfold swapsWith swC
  simp only [hb, Expr.pos]
  rfl
/-- name = e, by e's own reading -/
theorem ps_setPlain {e : Expr} {te : TE} {bts N : List Str} {sc : Scope} {T : Tbl} (g : GoodS T bts N sc X) (hi : (N[i]? == some y) = true) (hl : loc sc y = true) (hs : ∀ l, swapsWith e (some (.Name y py)) l X.env = pure false) (he : PE X e te) : PS X (.Assign [.Name y py] e pos) (tAsg te (gName i)) :=
  ps_set (by rw [g.hN]; exact g.nd) (g.ix hi) (g.toGood.loc hl) he (hs _) (.inl (g.fn _))
end
section
variable {T : Tbl} {X : Cx} {n : Nat}
theorem fin_new {K : PySem.W.Frag} {R : Addr → Prop} {a : Addr} {H H1 : Hp} {S : Strm} {Q : VK} {vs : List V} {xs : List PV} (f : Fresh R a H1) (k : Keep a H H1) (s : SRel K R a H1 S) (r : Reps K R a H1 vs xs)
    (q : ∀ p vs H', Keep a H H' → SRel K R a H' S → H p = none → H' p = some (.lst vs) → Reps K (but R p) a H' vs xs → Q (.ref p) H') : ∀ p, H1 p = none → Q (.ref p) (L2.upd H1 p (.lst vs)) := fun p hp =>
  q p vs _ (k.trans (Keep.upd hp)) (s.upd hp) (k.fresh hp) upd_same (r.toD hp (Keep.upd hp))
theorem pf_lst {es : List Expr} {pos} {l : List CE} (h : PA X es (tVs T X.K n l)) : PE X (.List es pos) (tF T X.K (n + 1) (.lst l)) := by
  refine (pe_lst h).imp fun σ H Q hq => ?_
  obtain ⟨R, a, env, S, y, S', A, e1, q⟩ := hq
  simp only [evE, Option.bind_eq_some_iff] at e1
  obtain ⟨⟨xs, S1⟩, h1, h2⟩ := e1
  split at h2
  · rename_i hl
    rw [Bool.and_eq_true, decide_eq_true_eq] at hl
    simp only [Option.some.injEq, Prod.mk.injEq, PV.lst.injEq] at h2
    obtain ⟨rfl, rfl⟩ := h2
    refine ⟨R, a, env, S, xs, S1, A, h1, fun vs H' k s r => ⟨LIM_le (by rw [r.length]; exact hl.2), ?_⟩⟩
    exact fin_new (A.fr.keep k) k s (r.reps hl.1) q
  · cases h2
theorem catL_lst {x y : Option (List PV)} {xs : List PV} (h : catL x y = some (.lst xs)) : ∃ l m, x = some l ∧ y = some m ∧ l.length + m.length ≤ LIM ∧ xs = l ++ m := by
  unfold catL at h
  split at h
  case h_2 => cases h
  rename_i a b
  split at h
  case isFalse => cases h
  rename_i hle
  simp only [Option.some.injEq, PV.lst.injEq] at h
  exact ⟨a, b, rfl, rfl, hle, h.symm⟩
theorem repL_lst {x : Option (List PV)} {k : Int} {xs : List PV} (h : repL x k = some (.lst xs)) : ∃ l, x = some l ∧ -(2 ^ 62) ≤ k ∧ k < 2 ^ 62 ∧ l.length * k.toNat ≤ LIM ∧ xs = (List.replicate k.toNat l).flatten := by
  unfold repL at h
  split at h
  case h_2 => cases h
  split at h
  case isFalse => cases h
  rename_i hle
  simp only [Bool.and_eq_true, decide_eq_true_eq] at hle
  simp only [Option.some.injEq, PV.lst.injEq] at h
  exact ⟨_, rfl, hle.1.1, hle.1.2, hle.2, h.symm⟩
theorem bin_lst {o : BOp} {x y : PV} {xs : List PV} (h : binV o x y = some (.lst xs)) : (o = .add ∧ catL x.lst? y.lst? = some (.lst xs)) ∨ (o = .mul ∧ ∃ k, y = .int k ∧ repL x.lst? k = some (.lst xs)) := by
  cases o with
  | add =>
    refine .inl ⟨rfl, ?_⟩
    cases x <;> first
      | exact h
      | (cases y <;> first
          | exact h
          | (simp [binV] at h; done)
          | (simp only [binV] at h; split at h <;> simp at h; done))
  | mul =>
    right
    cases y with
    | int k =>
      refine ⟨rfl, k, rfl, ?_⟩
      cases x <;> first
        | exact h
        | (simp only [binV] at h; split at h <;> simp at h; done)
        | (simp only [binV, repT] at h; split at h <;> simp at h; done)
    | _ => cases x <;> simp [binV] at h
  | sub => cases x <;> cases y <;> simp [binV] at h
  | mod => cases x <;> cases y <;> simp [binV] at h
  | fdiv => cases x <;> cases y <;> simp [binV] at h
  | pow => cases x <;> cases y <;> simp [binV] at h
theorem pf_bin {x y : Expr} {a b : CE} {pos : Pos} {o : BOp} (ha : PE X x (tV T X.K n a)) (hb : PE X y (tV T X.K n b)) : PE X (.BinOp x (opOf o) y pos) (tF T X.K (n + 1) (.bin o a b)) := by
  have key : ∃ r, OpR X (binaryOp (opOf o)) r ∧ ∀ {R : Addr → Prop} {ad : Addr} {H H1 : Hp} {S : Strm} {v w : V} {p q : PV} {xs : List PV} {Q : VK}, Fresh R ad H1 → Keep ad H H1 → SRel X.K R ad H1 S → RepE X.K R ad H1 v p → RepE X.K R ad H1 w q → binV o p q = some (.lst xs) →
      (∀ p vs H', Keep ad H H' → SRel X.K R ad H' S → H p = none → H' p = some (.lst vs) → Reps X.K (but R p) ad H' vs xs → Q (.ref p) H') → r v w H1 Q := by
    cases o with
    | add =>
      refine ⟨_, op_cat, fun f k s r1 r2 e q => ?_⟩
      rcases bin_lst e with ⟨_, h⟩ | ⟨h, _⟩
      · obtain ⟨l, m, h1, h2, h3, rfl⟩ := catL_lst h
        obtain ⟨p1, vs, rfl, g1, g2⟩ := r1.lst h1
        obtain ⟨p2, ws, rfl, g1', g2'⟩ := r2.lst h2
        exact ⟨p1, p2, vs, ws, rfl, rfl, g1, g1', LIM_le (by rw [g2.length, g2'.length]; exact h3), fin_new f k s (g2.append g2') q⟩
      · cases h
    | mul =>
      refine ⟨_, op_rep, fun f k s r1 r2 e q => ?_⟩
      rcases bin_lst e with ⟨h, _⟩ | ⟨_, m, rfl, h⟩
      · cases h
      · obtain ⟨l, h1, h2, h3, h4, rfl⟩ := repL_lst h
        obtain ⟨p1, vs, rfl, g1, g2⟩ := r1.lst h1
        exact ⟨p1, m, vs, rfl, r2.int, g1, by omega, by omega, LIM_le (by rw [g2.length]; exact h4), fin_new f k s (g2.rep _) q⟩
    | sub => exact ⟨_, op_sub, fun _ _ _ _ _ e _ => by rcases bin_lst e with ⟨h, _⟩ | ⟨h, _⟩ <;> cases h⟩
    | mod => exact ⟨_, op_mod, fun _ _ _ _ _ e _ => by rcases bin_lst e with ⟨h, _⟩ | ⟨h, _⟩ <;> cases h⟩
    | fdiv => exact ⟨_, op_fdiv, fun _ _ _ _ _ e _ => by rcases bin_lst e with ⟨h, _⟩ | ⟨h, _⟩ <;> cases h⟩
    | pow => exact ⟨_, op_pow, fun _ _ _ _ _ e _ => by rcases bin_lst e with ⟨h, _⟩ | ⟨h, _⟩ <;> cases h⟩
  obtain ⟨r, h1, h3⟩ := key
  refine (pe_op h1 ha hb).imp fun σ H Q hq => ?_
  obtain ⟨R, ad, env, S, w, S', A, e1, q⟩ := hq
  simp only [evE, Option.bind_eq_some_iff, Option.map_eq_some_iff] at e1
  obtain ⟨⟨v1, S1⟩, e1, ⟨v2, S2⟩, e2, v3, e3, e4⟩ := e1
  simp only [Prod.mk.injEq] at e4
  obtain ⟨rfl, rfl⟩ := e4
  exact ⟨R, ad, env, S, v1, S1, A, e1, fun u H1 k1 s1 r1 => ⟨R, ad, env, S1, v2, S2, A.keep k1 s1, e2, fun u2 H2 k2 s2 r2 =>
    h3 ((A.fr.keep k1).keep k2) (k1.trans k2) s2 (r1.keep k2) r2 e3 q⟩⟩
theorem pf_rg1 {y : Expr} {b : CE} {p1 p2 p3 p4 : Pos} (hc : X.calm = true) (hg : Gl X "list") (hm : X.mg "list" = none) (hg2 : Gl X "range") (hm2 : X.mg "range" = none) (hb : PE X y (tV T X.K n b)) (hs : notStar y = true) :
    PE X (.Call (.Name "list" p1) [.Call (.Name "range" p2) [y] [] p3] [] p4) (tF T X.K (n + 1) (.rg1 false b)) := by
  have rg := prg_1 (p := p2) (pos := p3) hg2 hm2 hb (star1 hs)
  refine (pe_listRg hc hg hm rg).imp fun σ H Q hq => ?_
  obtain ⟨R, ad, env, S, xs, S', A, e1, q⟩ := hq
  simp only [evE, Option.bind_eq_some_iff] at e1
  obtain ⟨⟨v1, S1⟩, e1, e2⟩ := e1
  unfold rgV1 at e2
  split at e2
  case h_2 => cases e2
  rename_i j hj
  have hj : v1 = .int j := hj
  subst hj
  simp only [Option.map_eq_some_iff] at e2
  obtain ⟨w, e2, e3⟩ := e2
  simp only [Prod.mk.injEq] at e3
  obtain ⟨rfl, rfl⟩ := e3
  obtain ⟨ok, e4⟩ := rgS_of e2
  have e4 : xs = rangeV 0 j := by
    rw [if_neg Bool.false_ne_true] at e4
    exact PV.lst.inj e4
  subst e4
  exact ⟨R, ad, env, S, _, S1, A, e1, fun u H1 k1 s1 r1 => ⟨j, r1.int, ok, fin_new (A.fr.keep k1) k1 s1 (reps_rg 0 j) q⟩⟩
theorem pf_list {y : Expr} {l : List CE} {p pos : Pos} {ck : Expr → CE → Bool} (hg : Gl X "list") (hm : X.mg "list" = none) (ha : PA X [y] (tVs T X.K n l)) (ck1 : notStar y = true) :
    PE X (.Call (.Name "list" p) [y] [] pos) (tF T X.K (n + 1) (.bi .list l)) := by
  refine (pe_callTy call_list_of hg hm (biBoot .list) ha (by decide) (by decide) (star1 ck1) rfl).imp fun σ H Q hq => ?_
  obtain ⟨R, ad, env, S, w, S', A, e1, q⟩ := hq
  simp only [evE, Option.bind_eq_some_iff, Option.map_eq_some_iff] at e1
  obtain ⟨⟨xs, S1⟩, e1, v, e2, e3⟩ := e1
  simp only [Prod.mk.injEq] at e3
  obtain ⟨rfl, rfl⟩ := e3
  refine ⟨R, ad, env, S, xs, S1, A, e1, fun vs H1 k1 s1 r1 => ?_⟩
  cases r1 with
  | nil => simp [biV] at e2
  | cons r rs =>
    cases rs with
    | cons _ _ => simp [biV] at e2
    | nil =>
      simp only [biV, Option.map_eq_some_iff, PV.lst.injEq] at e2
      obtain ⟨l', h1, rfl⟩ := e2
      obtain ⟨p, ws, rfl, hp, rr⟩ := r.seq h1
      exact ⟨p, ws, rfl, hp.elim (fun z => .inl (SqL.of z)) (fun z => .inr (SqT.of z)), fin_new (A.fr.keep k1) k1 s1 rr q⟩
end
end Ws

/-! Ws13: each statement. -/
namespace Ws
open PySem PySem.Spec PyProof.Rows L2

/-- no comprehension of two clauses -/
def notC2 : CE → Bool
  | .comp2 _ _ _ _ _ _ _ _ => false
  | _ => true
theorem chk_comp {bts N : List Str} {m : Nat} {sc : Scope} {elt : Expr} {gs : List Comprehension} {scope : Scope} {p : Pos} {c : CE} (hc : chkE bts N (m + 1) sc (.ListComp elt gs scope p) c = true) (hn : notC2 c = true) :
    ∃ tg it ifs elt' tg' it' ifs' own, gs = [⟨tg, it, ifs, 0⟩] ∧ c = .comp elt' tg' it' ifs' own ∧ chkI bts (chkE bts N m sc) sc tg it it' = true ∧ notSet it = true ∧ blkC N sc scope own = true ∧ chkTg N scope tg tg' = true ∧ tgIn tg' (own.map (·.2)) = true ∧
      ((match ifs, ifs' with
        | [], none => true
        | [d], some d' => chkE bts N m (relS scope sc) d d'
        | _, _ => false) = true) ∧ chkE bts N m (relS scope sc) elt elt' = true := by
  unfold chkE at hc
  split at hc
  all_goals first
    | (rename_i heq; cases heq; done)
    | (rename_i heq _; cases heq; done)
    | (cases hc; done)
    | (cases hn; done)
    | skip
  rename_i he
  simp only [Bool.and_eq_true] at hc
  cases he
  obtain ⟨⟨⟨⟨⟨⟨h1, h2⟩, h3⟩, h4⟩, h5⟩, h6⟩, h7⟩ := hc
  exact ⟨_, _, _, _, _, _, _, _, rfl, rfl, h1, h2, h3, h4, h5, h6, h7⟩
theorem chk_noSet {bts N : List Str} {m : Nat} {sc : Scope} {elt : Expr} {gs : List Comprehension} {scope : Scope} {p : Pos} {c : CE} : chkE bts N (m + 1) sc (.SetComp elt gs scope p) c = false := by
  unfold chkE
  split <;> first | rfl | (rename_i heq; cases heq; done) | (rename_i heq _; cases heq; done)
theorem chk_noDict {bts N : List Str} {m : Nat} {sc : Scope} {elt v : Expr} {gs : List Comprehension} {scope : Scope} {p : Pos} {c : CE} : chkE bts N (m + 1) sc (.DictComp elt v gs scope p) c = false := by
  unfold chkE
  split <;> first | rfl | (rename_i heq; cases heq; done) | (rename_i heq _; cases heq; done)
section
variable {T : Tbl} {bts N : List Str} {sc : Scope} {X : Cx} {n : Nat} {R : Addr → Prop} {a : Addr} {H0 : Hp}
/-- name = e: by e's reading, whatever e is -/
theorem ps_setE {te : TE} {m i : Nat} {y : Str} {py pos : Pos} {e : Expr} {c : CE} (g : GoodS T bts N sc X) (hi : (N[i]? == some y) = true) (hl : loc sc y = true) (hc : chkE bts N (m + 1) sc e c = true) (hn2 : notC2 c = true)
    (he : PE X e te) (hcomp : ∀ elt tg it ifs scope p elt' tg' it' ifs' own, e = .ListComp elt [⟨tg, it, ifs, 0⟩] scope p → c = .comp elt' tg' it' ifs' own → ∀ σ H Q, te σ H Q → tF T X.K (n + 1) c σ H Q) :
    PS X (.Assign [.Name y py] e pos) (tAsg te (gName i)) := by
  have gen : (∀ l, swapsWith e (some (.Name y py)) l X.env = pure false) → PS X (.Assign [.Name y py] e pos) (tAsg te (gName i)) := fun hs => ps_setPlain g hi hl hs he
  cases e with
  | ListComp elt gs scope p =>
    obtain ⟨tg, it, ifs, elt', tg', it', ifs', own, rfl, rfl, h1, h2, h3, h4, h5, h6, h7⟩ := chk_comp hc hn2
    cases hsw : swC X.env.scope scope y py p with
    | false => exact gen fun l => by rw [sw_comp (by rw [g.hs]; exact g.kind), hsw]
    | true =>
      have hy : X.env.scope.names.lookup y = some .local := by
        unfold swC at hsw
        simp only [Bool.and_eq_true, beq_iff_eq] at hsw
        exact hsw.1.1
      have ihP : ∀ e c, chkE bts N m sc e c = true → PE X e (tV T X.K n c) := fun e c h => (ev_ok m n sc X e c g.toGood h).1
      refine (ps_setLc (i := i) (wi := tI T X.K true n it') g.calm (by rw [g.hN]; exact g.nd) (g.ix hi) hy (by rw [sw_comp (by rw [g.hs]; exact g.kind), hsw]) (chkI_ev g.toGood ihP h1) (blkOk_by (by rw [g.hN, g.hs]; exact h3)) (g := gTg X.K tg') (fun s H C cl fp => pg_ev (X := X.blk s H scope (compEnvC scope cl C X.env) fp) g.calm (g.toGood.sto s H scope C cl fp) h4) (tt := tIf T X.K n ifs') (te := tV T X.K n elt') (fun s H C cl fp => ?_) (fun s H C cl fp => (ev_ok m n _ _ _ _ (g.toGood.blk s H scope C cl fp) h7).1) (fold_id h2)).imp fun D σ H hq => ?_
      · cases ifs with
        | nil =>
          cases ifs' with
          | none => exact pts_nil
          | some d => cases h6
        | cons d r =>
          cases r with
          | cons _ _ => cases ifs' <;> cases h6
          | nil =>
            cases ifs' with
            | none => cases h6
            | some d' => exact pts_one (ev_ok m n _ _ _ _ (g.toGood.blk s H scope C cl fp) h6).2
      · exact comp_ok h5 (hcomp _ _ _ _ _ _ _ _ _ _ _ rfl rfl σ H _ hq)
  | SetComp elt gs scope p => rw [chk_noSet] at hc; cases hc
  | DictComp elt v gs scope p => rw [chk_noDict] at hc; cases hc
  | _ => exact gen fun l => sw_no rfl

def noBool : Expr → Bool
  | .BoolOp _ _ _ => false
  | _ => true
def notTupE : Expr → Bool
  | .Tuple _ _ _ => false
  | _ => true
/-- a new list -/
theorem pf_ev {m : Nat} {e : Expr} {c : CE} (g : GoodS T bts N sc X) (hc : chkE bts N (m + 1) sc e c = true) (hf : isFresh c = true) (hb : noBool e = true) : PE X e (tF T X.K (n + 1) c) := by
  have ihP : ∀ e c, chkE bts N m sc e c = true → PE X e (tV T X.K n c) := fun e c h => (ev_ok m n sc X e c g.toGood h).1
  cases e with
  | BoolOp _ _ _ => simp [noBool] at hb
  | ListComp elt gs scope p =>
    obtain ⟨tg, it, ifs, elt', tg', it', ifs', own, rfl, rfl, h1, h2, h3, h4, h5, h6, h7⟩ := chk_comp hc (by cases c <;> first | rfl | (cases hf))
    refine (pe_lc g.calm (by rw [g.hN]; exact g.nd) (chkI_ev g.toGood ihP h1) (blkOk_by (by rw [g.hN, g.hs]; exact h3)) (g := gTg X.K tg') (fun s H C cl fp => pg_ev (X := X.blk s H scope (compEnvC scope cl C X.env) fp) g.calm (g.toGood.sto s H scope C cl fp) h4) (tt := tIf T X.K n ifs') (te := tV T X.K n elt') (fun s H C cl fp => ?_) (fun s H C cl fp => (ev_ok m n _ _ _ _ (g.toGood.blk s H scope C cl fp) h7).1) (fold_id h2)).imp fun σ H Q hq => comp_ok h5 hq
    cases ifs with
    | nil =>
      cases ifs' with
      | none => exact pts_nil
      | some d => cases h6
    | cons d r =>
      cases r with
      | cons _ _ => cases ifs' <;> cases h6
      | nil =>
        cases ifs' with
        | none => cases h6
        | some d' => exact pts_one (ev_ok m n _ _ _ _ (g.toGood.blk s H scope C cl fp) h6).2
  | List es p =>
    unfold chkE at hc
    split at hc
    all_goals first
      | (rename_i heq; cases heq; done)
      | (rename_i heq _; cases heq; done)
      | (cases hc; done)
      | (cases hf; done)
      | skip
    rename_i he
    cases he
    exact pf_lst (pa_ev ihP _ _ hc)
  | BinOp x o y p =>
    unfold chkE at hc
    split at hc
    all_goals first
      | (rename_i heq; cases heq; done)
      | (rename_i heq _; cases heq; done)
      | (cases hc; done)
      | skip
    rename_i he
    cases he
    simp only [Bool.and_eq_true, beq_iff_eq] at hc
    obtain ⟨⟨h1, h2⟩, h3⟩ := hc
    subst h1
    exact pf_bin (ihP _ _ h2) (ihP _ _ h3)
  | Call f es ks p =>
    unfold chkE at hc
    split at hc
    all_goals first
      | (rename_i heq; cases heq; done)
      | (rename_i heq _; cases heq; done)
      | (cases hc; done)
      | (cases hf; done)
      | skip
    rename_i he
    cases he
    simp only [Bool.and_eq_true, beq_iff_eq] at hc
    obtain ⟨⟨⟨h1, h2⟩, h3⟩, h4⟩ := hc
    subst h1
    rename_i p2 y es b l
    cases b <;> first | (cases hf; done) | skip
    cases es with
    | nil => exact pf_list (ck := chkE bts N m sc) (g.toGood.gl h2) (g.toGood.bt h3) (pa_ev ihP _ _ h4) (chkL_ne h4)
    | cons z zs =>
      refine ⟨fun pins s σ H Q I hq => ?_⟩
      obtain ⟨R, ad, env, S, w, S', A, e1, q⟩ := hq
      exfalso
      cases l with
      | nil => simp [chkL] at h4
      | cons a l =>
        cases l with
        | nil => simp [chkL] at h4
        | cons a2 l =>
          simp only [evE, evL, Option.bind_eq_some_iff, Option.map_eq_some_iff] at e1
          obtain ⟨⟨xs, S1⟩, ⟨⟨v1, S2⟩, e1, ⟨ys, S3⟩, ⟨⟨v2, S4⟩, e2, ⟨zs, S5⟩, e3, e4⟩, e5⟩, v, e6, e7⟩ := e1
          simp only [Prod.mk.injEq] at e4 e5
          obtain ⟨rfl, rfl⟩ := e4
          obtain ⟨rfl, rfl⟩ := e5
          simp [biV] at e6
    rename_i xf q1 yf q2 bb q3 q4 tt bb' he
    cases he
    cases tt with
    | true => cases hf
    | false =>
      simp only [Bool.and_eq_true, beq_iff_eq, if_neg Bool.false_ne_true] at hc
      obtain ⟨⟨⟨⟨⟨⟨⟨h1, h2⟩, h3⟩, h4⟩, h5⟩, h6⟩, h7⟩, h8⟩ := hc
      subst h1 h4
      exact pf_rg1 g.calm (g.toGood.gl h2) (g.toGood.bt h3 (by decide)) (g.toGood.gl h5) (g.toGood.bt h6 (by decide)) (ihP _ _ h8) h7
  | _ =>
    unfold chkE at hc
    split at hc
    all_goals first
      | (rename_i heq; cases heq; done)
      | (rename_i heq _; cases heq; done)
      | (cases hc; done)
      | (cases hf; done)
end
section
variable {T : Tbl} {bts N : List Str} {sc : Scope} {X : Cx} {n : Nat} {R : Addr → Prop} {a : Addr} {H0 : Hp} {e : Expr} {c : CE} {pos : Pos}
/-- targets = e -/
theorem asg_imp {t : Tg} {D : Ends} {σ : L2.St} {H : Hp} (h : tS T X.K R a H0 (n + 1) (.asg t c) D σ H) : tAsg (tV T X.K FU c) (gTg X.K t) D σ H := by
  obtain ⟨O, env, S, fl, S', st, ev, po⟩ := h
  simp only [evS, Option.bind_eq_some_iff, Option.map_eq_some_iff] at ev
  obtain ⟨⟨x, S1⟩, e1, env', e2, e3⟩ := ev
  simp only [Prod.mk.injEq] at e3
  obtain ⟨rfl, rfl⟩ := e3
  exact ⟨_, a, env, S, x, S1, st.at, e1, fun v H' k s r => (st.step k s).bind r e2 fun σ' st' => po O σ' H' (Ev.of k) st'⟩
theorem ps_asgN {i m : Nat} {y : Str} {py : Pos} (g : GoodS T bts N sc X) (hi : (N[i]? == some y) = true) (hl : loc sc y = true) (hc : chkE bts N (m + 1) sc e c = true) (hn2 : notC2 c = true) : PS X (.Assign [.Name y py] e pos) (tS T X.K R a H0 (n + 1) (.asg (.nm i) c)) := by
  refine (ps_setE (te := tV T X.K FU c) (n := 59) (i := i) g hi hl hc hn2 (ev_ok (m + 1) FU sc X e c g.toGood hc).1 fun elt tg it ifs scope p elt' tg' it' ifs' own he hce σ H Q hq => ?_).imp fun D σ H h => asg_imp h
  subst hce
  exact tV_tF hq
theorem ps_asgT {m : Nat} {es : List Expr} {k : Nat} {tp : Pos} {l : List Nat} (g : GoodS T bts N sc X) (ht : chkTg N sc (.Tuple es k tp) (.tp l) = true) (hc : chkE bts N m sc e c = true) (h2 : notTupE e = true) : PS X (.Assign [.Tuple es k tp] e pos) (tS T X.K R a H0 (n + 1) (.asg (.tp l) c)) := by
  refine (ps_asg (ev_ok m FU sc X e c g.toGood hc).1 (pg_ev g.calm g.sto ht) (hs := by show swapsWith e (some (.Tuple es k tp)) pos.line X.env = pure false; cases e <;> rfl) (hw := ?_) rfl).imp fun D σ H h => asg_imp h
  cases e <;> first | rfl | (simp [notTupE] at h2)
end
end Ws

/-! Ws14: lists that are changed, ifs, loops, returns, blocks; a def by its body. -/
namespace Ws
open PySem PySem.Spec PyProof.Rows L2

section
variable {T : Tbl} {bts N : List Str} {sc : Scope} {X : Cx} {n : Nat} {R : Addr → Prop} {a : Addr} {H0 : Hp} {e k : Expr} {c d : CE} {pos : Pos}
theorem own_at {env : Env} {i : Nat} {l : List PV} (h : ownAt env i = some l) : env[i]? = some (some (.own l)) := by
  unfold ownAt at h
  split at h
  · rename_i x hx
    simp only [Option.some.injEq] at h
    subst h
    exact hx
  · cases h
/-- name = a new list that it holds alone -/
theorem ps_asgO {i m : Nat} {y : Str} {py : Pos} (g : GoodS T bts N sc X) (hi : (N[i]? == some y) = true) (hl : loc sc y = true) (hc : chkE bts N (m + 1) sc e c = true) (hb : noBool e = true) : PS X (.Assign [.Name y py] e pos) (tS T X.K R a H0 (n + 1) (.asgO i c)) := by
  by_cases hf : isFresh c = true
  · refine (ps_setE (te := tF T X.K FU c) (n := 59) (i := i) g hi hl hc (by cases c <;> first | rfl | (cases hf)) (pf_ev (n := 59) g hc hf hb) fun elt tg it ifs scope p elt' tg' it' ifs' own he hce σ H Q hq => hq).imp fun D σ H h => ?_
    obtain ⟨O, env, S, fl, S', st, ev, po⟩ := h
    simp only [evS] at ev
    rw [if_pos hf] at ev
    simp only [Option.bind_eq_some_iff] at ev
    obtain ⟨⟨x, S1⟩, e1, e2⟩ := ev
    split at e2
    case h_2 => cases e2
    rename_i xs hx
    have hx : x = .lst xs := hx
    subst hx
    split at e2
    case isFalse => cases e2
    rename_i hlt
    rw [Bool.and_eq_true, decide_eq_true_eq] at hlt
    simp only [Option.some.injEq, Prod.mk.injEq] at e2
    obtain ⟨rfl, rfl⟩ := e2
    exact ⟨_, a, env, S, xs, S1, st.at, e1, fun p vs H' k s hp hp1 rs => po _ _ _ (Ev.newO st k hp) (st.newO k s hlt.2 hp hp1 rs hlt.1)⟩
  · refine ⟨fun pins s σ H D I h => ?_⟩
    obtain ⟨O, env, S, fl, S', st, ev, po⟩ := h
    simp only [evS] at ev
    rw [if_neg hf] at ev
    cases ev
/-- name.append(e) -/
theorem ps_appV {i m : Nat} {y : Str} {py apos p : Pos} (g : GoodS T bts N sc X) (hi : (N[i]? == some y) = true) (hv : vis sc y = true) (hd : okName y = true) (hc : chkE bts N m sc e c = true) (hs : notStar e = true) (hline : (apos.endLine == p.line) = true) :
    PS X (.Expr (.Call (.Attribute (.Name y py) "append" apos) [e] [] p) pos) (tS T X.K R a H0 (n + 1) (.app i c)) := by
  obtain ⟨d1, d2⟩ := okN hd
  have he := (ev_ok m FU sc X e c g.toGood hc).1
  refine (ps_expr (pe_bm PySem.F.plainAttrs_list PySem.F.slot_list_append PySem.F.type_list_append mt_append (pe_var (g.ix hi) (g.toGood.vis hv) d1 d2) (pa_cons he pa_nil (star1 hs)) rfl (by rw [star1 hs]; rfl) hline (star1 hs) rfl)).imp fun D σ H h => ?_
  obtain ⟨O, env, S, fl, S', st, ev, po⟩ := h
  simp only [evS, Option.bind_eq_some_iff] at ev
  obtain ⟨⟨x, S1⟩, e1, l, e2, e3⟩ := ev
  split at e3
  · cases e3
  rename_i hn
  simp only [Option.some.injEq, Prod.mk.injEq] at e3
  obtain ⟨rfl, rfl⟩ := e3
  simp only [Bool.or_eq_true, Bool.not_eq_true', decide_eq_false_iff_not, not_or, Bool.not_eq_true, Classical.not_not] at hn
  have ho := own_at e2
  obtain ⟨la, vs, h1, h2, h3, h4, h5⟩ := st.own ho
  refine ⟨_, h1, .inl ⟨rfl, vs, SqL.of h3⟩, _, a, env, S, x, S1, st.at, e1, fun v H' k s r => ?_⟩
  have st' := st.step k s
  have h3' := k.1 _ _ h3 h4
  obtain ⟨m1, m2⟩ := st'.mut (xs' := l ++ [x]) (vs' := vs ++ [v]) ho h1 h2 h3' ((h5.keep k).append (.cons (r.rep hn.1) .nil))
  refine ⟨la, vs, v, rfl, rfl, h3', ?_, po _ _ _ ((Ev.of k).trans m2) m1⟩
  have := h5.length
  have : sizeLine = 16777216 := sizeLine_eq
  have : l.length < 1000000 := hn.2
  omega
/-- name.extend(e) -/
theorem ps_extV {i m : Nat} {y : Str} {py apos p : Pos} (g : GoodS T bts N sc X) (hi : (N[i]? == some y) = true) (hv : vis sc y = true) (hd : okName y = true) (hc : chkE bts N m sc e c = true) (hs : notStar e = true) (hline : (apos.endLine == p.line) = true) :
    PS X (.Expr (.Call (.Attribute (.Name y py) "extend" apos) [e] [] p) pos) (tS T X.K R a H0 (n + 1) (.ext i c)) := by
  obtain ⟨d1, d2⟩ := okN hd
  have he := (ev_ok m FU sc X e c g.toGood hc).1
  refine (ps_expr (pe_bm PySem.F.plainAttrs_list PySem.F.slot_list_extend PySem.F.type_list_extend mt_extend (pe_var (g.ix hi) (g.toGood.vis hv) d1 d2) (pa_cons he pa_nil (star1 hs)) rfl (by rw [star1 hs]; rfl) hline (star1 hs) rfl)).imp fun D σ H h => ?_
  obtain ⟨O, env, S, fl, S', st, ev, po⟩ := h
  simp only [evS, Option.bind_eq_some_iff] at ev
  obtain ⟨⟨x, S1⟩, e1, l, e2, e3⟩ := ev
  split at e3
  case h_2 => cases e3
  rename_i xs hx
  have hx : x = .lst xs := hx
  subst hx
  split at e3
  case isFalse => cases e3
  rename_i hn
  simp only [Option.some.injEq, Prod.mk.injEq] at e3
  obtain ⟨rfl, rfl⟩ := e3
  have ho := own_at e2
  obtain ⟨la, vs, h1, h2, h3, h4, h5⟩ := st.own ho
  refine ⟨_, h1, .inl ⟨rfl, vs, SqL.of h3⟩, _, a, env, S, .lst xs, S1, st.at, e1, fun v H' k s r => ?_⟩
  have st' := st.step k s
  have h3' := k.1 _ _ h3 h4
  have r' := r.rep rfl
  cases r' with
  | lst hb nb qb rs =>
    obtain ⟨m1, m2⟩ := st'.mut (xs' := l ++ xs) (vs' := vs ++ _) ho h1 h2 h3' ((h5.keep k).append rs)
    refine ⟨la, _, vs, _, rfl, rfl, h3', hb, ?_, po _ _ _ ((Ev.of k).trans m2) m1⟩
    have := h5.length
    have := rs.length
    have : sizeLine = 16777216 := sizeLine_eq
    have : l.length + xs.length ≤ 1000000 := hn
    omega
/-- name[k] = e -/
theorem ps_setIV {i m : Nat} {y : Str} {py p : Pos} (g : GoodS T bts N sc X) (hi : (N[i]? == some y) = true) (hv : vis sc y = true) (hd : okName y = true) (hc : chkE bts N m sc e c = true) (hk : chkE bts N m sc k d = true) (hn : noComp e = true) (hns : notSlice k = true) :
    PS X (.Assign [.Subscript (.Name y py) k p] e pos) (tS T X.K R a H0 (n + 1) (.setI i d c)) := by
  obtain ⟨d1, d2⟩ := okN hd
  have he := (ev_ok m FU sc X e c g.toGood hc).1
  have hk := (ev_ok m FU sc X k d g.toGood hk).1
  refine (ps_asg he (pg_sub (pe_var (g.ix hi) (g.toGood.vis hv) d1 d2) hk set_list (by intro v; cases k <;> first | rfl | (simp [notSlice] at hns))) (hs := by show swapsWith e (some (.Subscript (.Name y py) k p)) pos.line X.env = pure false; exact sw_no hn) (hw := rfl) rfl).imp fun D σ H h => ?_
  obtain ⟨O, env, S, fl, S', st, ev, po⟩ := h
  simp only [evS, Option.bind_eq_some_iff] at ev
  obtain ⟨⟨x, S1⟩, e1, ⟨z, S2⟩, e2, l, e3, e4⟩ := ev
  split at e4
  case h_2 => cases e4
  rename_i j hj
  have hj : z = .int j := hj
  subst hj
  split at e4
  · cases e4
  rename_i hx
  simp only [Option.map_eq_some_iff, Prod.mk.injEq] at e4
  obtain ⟨q, hq, rfl, rfl⟩ := e4
  have ho := own_at e3
  refine ⟨_, a, env, S, x, S1, st.at, e1, fun v H' k1 s1 r1 => ?_⟩
  have st1 := st.step k1 s1
  obtain ⟨la, vs, h1, h2, h3, h4, h5⟩ := st1.own ho
  refine ⟨_, h1, _, a, env, S1, _, S2, st1.at, e2, fun w H2 k2 s2 r2 => ?_⟩
  have st2 := st1.step k2 s2
  have h3' := k2.1 _ _ h3 h4
  obtain ⟨m1, m2⟩ := st2.mut (xs' := l.set q x) (vs' := vs.set q v) ho h1 h2 h3' (((h5.keep k2)).set q ((r1.keep k2).rep (by simpa using hx)))
  exact ⟨la, vs, j, q, rfl, r2.int, h3', by rw [h5.length]; exact hq, po _ _ _ (((Ev.of k1).trans (Ev.of k2)).trans m2) m1⟩
/-- the stream's cell or place -/
theorem ps_ssetV {i m : Nat} {y : Str} {py p p2 : Pos} {j : Int} {kk : Nat} (g : GoodS T bts N sc X) (hi : (N[i]? == some y) = true) (hv : vis sc y = true) (hd : okName y = true) (hc : chkE bts N m sc e c = true) (hn : noComp e = true) :
    PS X (.Assign [.Subscript (.Name y py) (.Constant (.int j) kk p2) p] e pos) (tS T X.K R a H0 (n + 1) (.sset i j c)) := by
  obtain ⟨d1, d2⟩ := okN hd
  have he := (ev_ok m FU sc X e c g.toGood hc).1
  refine (ps_asg he (pg_sub (pe_var (g.ix hi) (g.toGood.vis hv) d1 d2) pe_int set_list) (hs := by show swapsWith e (some (.Subscript (.Name y py) (.Constant (.int j) kk p2) p)) pos.line X.env = pure false; exact sw_no hn) (hw := rfl) rfl).imp fun D σ H h => ?_
  obtain ⟨O, env, S, fl, S', st, ev, po⟩ := h
  simp only [evS, Option.bind_eq_some_iff] at ev
  obtain ⟨⟨x, S1⟩, e1, e2⟩ := ev
  split at e2
  case h_2 => cases e2
  rename_i z scr c0 k0 hst hx hS
  have hx : x = .int z := hx
  have hS : S1 = some (scr, c0, k0) := hS
  subst hx
  subst hS
  refine ⟨_, a, env, S, _, _, st.at, e1, fun v H' k1 s1 r1 => ?_⟩
  have st1 := st.step k1 s1
  have hv := r1.int
  subst hv
  obtain ⟨w, h1, h2⟩ := st1.en.get i _ hst
  have hw : w = .ref a := by cases (show Rep _ _ _ _ _ _ from h2); rfl
  subst hw
  obtain ⟨q, g1, g2, g3, g4⟩ := s1
  have kq : ∀ l, Keep a H' (L2.upd H' a (.lst (.ref q :: l))) := fun l => by
    refine ⟨fun b o e n => by rw [upd_ne n]; exact e, fun b e => ?_, fun q' r' e => ⟨l, ?_⟩⟩
    · by_cases hb : b = a
      · subst hb; rw [upd_same]; exact fun z => by cases z
      · rw [upd_ne hb]; exact e
    · rw [g1] at e
      injection e with e
      injection e with e
      injection e with e _
      injection e with e
      subst e
      exact upd_same
  refine ⟨_, h1, ?_⟩
  split at e2
  · rename_i hj
    subst hj
    simp only [Option.some.injEq, Prod.mk.injEq] at e2
    obtain ⟨rfl, rfl⟩ := e2
    refine ⟨a, _, 1, 1, rfl, rfl, g1, rfl, ?_⟩
    exact po O σ _ ((Ev.of k1).trans (Ev.of (kq _))) (st1.step (kq [.int z, .int k0]) ⟨q, upd_same, by rw [upd_ne g3]; exact g2, g3, g4⟩)
  · split at e2
    · rename_i hj
      subst hj
      simp only [Option.some.injEq, Prod.mk.injEq] at e2
      obtain ⟨rfl, rfl⟩ := e2
      refine ⟨a, _, 2, 2, rfl, rfl, g1, rfl, ?_⟩
      exact po O σ _ ((Ev.of k1).trans (Ev.of (kq _))) (st1.step (kq [.int c0, .int z]) ⟨q, upd_same, by rw [upd_ne g3]; exact g2, g3, g4⟩)
    · cases e2
/-- f(..).append(e): the list that f returns is new, and dropped -/
theorem ps_dropV {f : Str} {y : Expr} {es : List Expr} {l : List CE} {m : Nat} {p p1 p2 apos : Pos} (g : GoodS T bts N sc X) (hg : gl sc f = true) (hd : okName f = true) (h4 : chkL (chkE bts N m sc) (y :: es) l = true) (hc : chkE bts N m sc e c = true) (hs : notStar e = true) (hline : (apos.endLine == p.line) = true) :
    PS X (.Expr (.Call (.Attribute (.Call (.Name f p1) (y :: es) [] p2) "append" apos) [e] [] p) pos) (tS T X.K R a H0 (n + 1) (.drop f l c)) := by
  cases hT : T.fn f with
  | none => exact ⟨fun pins s σ H D I h => by
      obtain ⟨O, env, S, fl, S', st, ev, po⟩ := h
      simp [evS, hT] at ev⟩
  | some φ =>
    have he := (ev_ok m FU sc X e c g.toGood hc).1
    have ihP : ∀ e c, chkE bts N m sc e c = true → PE X e (tV T X.K FU c) := fun e c h => (ev_ok m FU sc X e c g.toGood h).1
    have t : chkL (chkE bts N m sc) es l.tail = true := by
      cases l with
      | nil => simp [chkL] at h4
      | cons a l => simp only [chkL, Bool.and_eq_true] at h4; exact h4.2
    obtain ⟨pa, fd, ps, k, cx, h0, h1, h2, h3, h5, h6, h7⟩ := (g.fns f φ hT).ex
    refine (ps_expr (pe_bm PySem.F.plainAttrs_list PySem.F.slot_list_append PySem.F.type_list_append mt_append (pe_call (dvs := []) h5 h6 (g.toGood.gl hg) h1 h2 h3 .nil (h7 X rfl rfl) (pa_ev ihP _ _ h4) (okN hd).1 (star1 (chkL_ne h4)) (chkL_plain t)) (pa_cons he pa_nil (star1 hs)) rfl (by rw [star1 hs]; rfl) hline (star1 hs) rfl)).imp fun D σ H h => ?_
    obtain ⟨O, env, S, fl, S', st, ev, po⟩ := h
    simp only [evS, hT, Option.bind_some, Option.bind_eq_some_iff] at ev
    obtain ⟨⟨xs, S1⟩, e1, e2⟩ := ev
    split at e2
    case isFalse => cases e2
    rename_i hl
    rw [Bool.and_eq_true, decide_eq_true_eq] at hl
    simp only [Option.bind_eq_some_iff] at e2
    obtain ⟨⟨o, S2⟩, e2, e3⟩ := e2
    split at e3
    case h_2 => cases e3
    rename_i zs hz
    have hz : o = .ret (.lst zs) := hz
    subst hz
    split at e3
    case isFalse => cases e3
    rename_i hlen
    rw [Bool.and_eq_true, Bool.and_eq_true, decide_eq_true_eq] at hlen
    simp only [Option.bind_eq_some_iff] at e3
    obtain ⟨⟨u, S3⟩, e3, e4⟩ := e3
    split at e4
    case isFalse => cases e4
    rename_i hS13
    simp only [Option.some.injEq, Prod.mk.injEq] at e4
    obtain ⟨rfl, rfl⟩ := e4
    have A := st.at
    refine ⟨_, a, env, S, xs, S1, A, e1, fun vs H1 k1 s1 r1 => ?_⟩
    show spF X.K φ.1 φ.2 (vs ++ []) H1 _ E0
    rw [List.append_nil]
    have st1 := st.step k1 s1
    have hfl : PV.flats xs = true := by
      have : ∀ l : List PV, l.all PV.flat = true → PV.flats l = true := by
        intro l
        induction l with
        | nil => intro _; rfl
        | cons x l ih => intro h; rw [List.all_cons, Bool.and_eq_true] at h; simp only [PV.flats, h.1, ih h.2, Bool.and_self]
      exact this xs hl.2
    have hno : xs.all (fun x => !x.isOwn) = true := by
      refine List.all_eq_true.mpr fun x hx => ?_
      have := List.all_eq_true.mp hl.2 x hx
      cases x <;> first | rfl | (simp [PV.flat] at this)
    have ra : ¬ (H1 a = none) ∨ True := .inr trivial
    -- what is free now
    by_cases ha : H1 a = none
    · -- the stream is none here
      have hS : S1 = none := by
        cases S1 with
        | none => rfl
        | some t =>
          obtain ⟨scr, c0, k0⟩ := t
          obtain ⟨q, g1, _⟩ := s1
          rw [ha] at g1; cases g1
      exact absurd ha (fun _ => st1.fr.na (st1.fr.fc a ha))
    · refine ⟨fun b => H1 b = none ∨ nO R O b ∧ False ∨ (∃ scr c0 k0 q, S1 = some (scr, c0, k0) ∧ b = q ∧ H1 a = some (.lst [.ref q, .int c0, .int k0])), a, xs, S1, .ret (.lst zs), S2, ⟨fun b hb => .inl hb, ?_⟩, (r1.reps hno).flat hfl, ?_, hl.1, e2, fun v H2 k2 s2 r2 => ?_⟩
      · rintro (hb | hb | ⟨scr, c0, k0, q, _, e, hq⟩)
        · exact ha hb
        · exact hb.2
        · cases S1 with
          | none => rename_i e0; cases e0
          | some t =>
            obtain ⟨scr', c', k'⟩ := t
            obtain ⟨q', g1, g2, g3, g4⟩ := s1
            rw [g1] at hq
            cases hq
            exact g3 e.symm
      · cases S1 with
        | none => trivial
        | some t =>
          obtain ⟨scr', c', k'⟩ := t
          obtain ⟨q', g1, g2, g3, g4⟩ := s1
          exact ⟨q', g1, g2, g3, .inr (.inr ⟨_, _, _, _, rfl, rfl, g1⟩)⟩
      · cases r2 with
        | @lst la vs2 _ hl2 hla hR2 rs2 =>
          -- it is new
          have new : H1 la = none := by
            rcases hR2 with hb | hb | ⟨scr, c0, k0, q, eS, rfl, hq⟩
            · exact hb
            · exact hb.2.elim
            · exfalso
              subst eS
              obtain ⟨q', g1, g2, g3, g4⟩ := s1
              rw [g1] at hq
              have eq : q' = la := by
                injection hq with hq
                injection hq with hq
                injection hq with hq _
                injection hq
              subst eq
              have g2' := k2.1 _ _ g2 g3
              rw [hl2] at g2'
              cases g2'
              obtain ⟨x, hx, hxt⟩ := List.any_eq_true.mp hlen.2
              obtain ⟨i, hi⟩ := List.getElem?_of_mem hx
              obtain ⟨w, hw, rw'⟩ := rs2.get hi
              rw [List.getElem?_map] at hw
              cases hsc : scr[i]? with
              | none => rw [hsc] at hw; cases hw
              | some z =>
                rw [hsc] at hw
                cases hw
                cases rw'
                cases hxt
          have s2' : SRel X.K (nO R O) a H2 S2 := st1.sr.back k2 s2 hlen.1.2
          have st2 := st1.step k2 s2'
          refine ⟨.inl ⟨rfl, vs2, SqL.of hl2⟩, _, a, env, S2, u, S3, st2.at, e3, fun w H3 k3 s3 r3 => ?_⟩
          have h3 := k3.1 _ _ hl2 hla
          have kk : Keep a H1 (L2.upd H3 la (.lst (vs2 ++ [w]))) := Keep.updD new hla (k2.trans k3)
          have s4 : SRel X.K (nO R O) a (L2.upd H3 la (.lst (vs2 ++ [w]))) S3 := by
            cases S3 with
            | none => trivial
            | some t =>
              obtain ⟨scr, c0, k0⟩ := t
              obtain ⟨q, g1, g2, g3, g4⟩ := s3
              have hql : q ≠ la := fun z => by
                have hq1 : ∃ o, H1 q = some o := by
                  cases S1 with
                  | none => simp at hS13
                  | some t1 =>
                    obtain ⟨scr1, c1, k1'⟩ := t1
                    obtain ⟨q1, f1, f2, f3, f4⟩ := s1
                    obtain ⟨r', e⟩ := (k2.trans k3).2.2 _ _ f1
                    rw [g1] at e
                    have eq : q = q1 := by
                      injection e with e
                      injection e with e
                      injection e with e _
                      injection e
                    exact ⟨_, by rw [eq]; exact f2⟩
                obtain ⟨o, ho⟩ := hq1
                rw [z, new] at ho; cases ho
              exact ⟨q, by rw [upd_ne (Ne.symm hla)]; exact g1, by rw [upd_ne hql]; exact g2, g3, g4⟩
          refine ⟨la, vs2, w, rfl, rfl, h3, ?_, po O σ _ ((Ev.of k1).trans (Ev.of kk)) (st1.step kk s4)⟩
          have := rs2.length
          have : sizeLine = 16777216 := sizeLine_eq
          have : zs.length < 1000000 := hlen.1.1
          omega
end
end Ws

/-! Ws14b: a, b = x, y; xs[k] += e. -/
namespace Ws
open PySem PySem.Spec PyProof.Rows L2

def nstar : Expr → Bool
  | .Starred _ _ => false
  | _ => true
/-- two local names on one row, values that are not folded -/
def swapOk (sc : Scope) (x y : Str) (px py : Pos) (vs : List Expr) : Bool :=
  (sc.names.lookup x == some .local) && (sc.names.lookup y == some .local) && (py.line == px.line) && !(x == y) && vs.all nstar && !(vs.all (foldedForSure 8)) && !(vs.all (constantsAlone 8))
def swapNo (sc : Scope) (ts : List Expr) : Bool :=
  !(ts.length == 2 || ts.length == 3) || ts.any fun | .Name id _ => !(sc.names.lookup id == some .local) | _ => true
theorem filterMap_full {α β : Type} {f : α → Option β} : ∀ {l : List α}, (l.filterMap f).length = l.length → ∀ e ∈ l, ∃ b, f e = some b
  | [], _, e, h => by simp at h
  | x :: l, h, e, he => by
    cases hx : f x with
    | none =>
      rw [List.filterMap_cons_none hx, List.length_cons] at h
      have := List.length_filterMap_le f l
      omega
    | some b =>
      rw [List.filterMap_cons_some hx, List.length_cons, List.length_cons] at h
      rcases List.mem_cons.mp he with rfl | he
      · exact ⟨b, hx⟩
      · exact filterMap_full (Nat.succ.inj h) e he
section
variable {X : Cx} {sc : Scope}
theorem swap_ok {x y : Str} {px py pt : Pos} {a b : Expr} {kt k2 : Nat} {pt2 : Pos} (hs : X.env.scope = sc) (hk : sc.kind = .function) (h : swapOk sc x y px py [a, b] = true) :
    swappedStores [.Tuple [.Name x px, .Name y py] kt pt] (.Tuple [a, b] k2 pt2) X.env = pure (some [x, y]) := by
  unfold swapOk at h
  simp only [Bool.and_eq_true, beq_iff_eq, Bool.not_eq_true', List.all_cons, List.all_nil, Bool.and_true] at h
  obtain ⟨⟨⟨⟨⟨⟨h1, h2⟩, h3⟩, h4⟩, h5⟩, h6⟩, h7⟩ := h
  have hb : X.env.blockKind = .function := by unfold Env.blockKind; rw [hs, hk]; rfl
  have k1 : X.env.kindOf x = some .local := by show X.env.scope.names.lookup x = _; rw [hs]; exact h1
  have k2 : X.env.kindOf y = some .local := by show X.env.scope.names.lookup y = _; rw [hs]; exact h2
  have hxy : (x == y) = false := h4
  have hyx : (y == x) = false := by
    rw [beq_eq_false_iff_ne] at hxy ⊢
    exact fun z => hxy z.symm
  have nd : ([x, y].eraseDups).length = 2 := by
    show (List.eraseDupsBy _ [x, y]).length = 2
    simp [List.eraseDupsBy, List.eraseDupsBy.loop, hyx, hxy]
  unfold swappedStores
  have c1 : (!(([Expr.Name x px, Expr.Name y py].length == 2) || ([Expr.Name x px, Expr.Name y py].length == 3)) || ([a, b].length != [Expr.Name x px, Expr.Name y py].length) || (X.env.blockKind != .function)) = false := by rw [hb]; rfl
  dsimp only
  rw [if_neg (by rw [c1]; exact Bool.false_ne_true)]
  split
  · rename_i hst
    exfalso
    obtain ⟨e, he, hs2⟩ := List.any_eq_true.mp hst
    have hn : nstar e = true := by
      have he : e = a ∨ e = b := by simpa using he
      rcases he with rfl | rfl
      · exact h5.1
      · exact h5.2
    cases e <;> first | (simp at hs2; done) | (simp [nstar] at hn)
  · generalize hL : List.filterMap _ [Expr.Name x px, Expr.Name y py] = L
    have hnm : L = [x, y] := by
      rw [← hL]
      simp [k1, k2, h3, Expr.pos]
    rw [hnm]
    rw [if_neg (by rw [nd]; simp)]
    rw [if_neg (by simpa using h6), if_neg (by simpa using h7)]
theorem swap_no {ts vs : List Expr} {k k2 : Nat} {pt pt2 : Pos} (hs : X.env.scope = sc) (h : swapNo sc ts = true) : swappedStores [.Tuple ts k pt] (.Tuple vs k2 pt2) X.env = pure none := by
  unfold swappedStores
  dsimp only
  split
  · rfl
  rename_i h1
  split
  · rfl
  rw [if_pos]
  · unfold swapNo at h
    rw [Bool.or_eq_true] at h
    rcases h with h | h
    · exfalso
      refine h1 ?_
      simp only [Bool.or_eq_true]
      exact .inl (.inl h)
    · rw [Bool.or_eq_true]
      refine .inl ?_
      obtain ⟨e, he, hn⟩ := List.any_eq_true.mp h
      rw [bne_iff_ne]
      intro hl
      obtain ⟨b, hb⟩ := filterMap_full hl e he
      cases e with
      | Name id p =>
        dsimp only at hb hn
        split at hb
        · rename_i hc
          rw [Bool.and_eq_true] at hc
          have hc1 : (X.env.scope.names.lookup id == some .local) = true := hc.1
          rw [hs] at hc1
          rw [hc1] at hn
          cases hn
        · cases hb
      | _ => cases hb
end
section
variable {T : Tbl} {bts N : List Str} {sc : Scope} {X : Cx} {n : Nat} {R : Addr → Prop} {a : Addr} {H0 : Hp} {e k : Expr} {c d : CE} {pos : Pos}
/-- a, b = x, y, both local -/
theorem ps_parV {i j m : Nat} {x y : Str} {px py pt : Pos} {kt k2 : Nat} {pt2 : Pos} {u v : Expr} {cu cv : CE} (g : GoodS T bts N sc X) (hi : (N[i]? == some x) = true) (hj : (N[j]? == some y) = true) (hij : (i == j) = false) (h : swapOk sc x y px py [u, v] = true) (hu : chkE bts N m sc u cu = true) (hv : chkE bts N m sc v cv = true) :
    PS X (.Assign [.Tuple [.Name x px, .Name y py] kt pt] (.Tuple [u, v] k2 pt2) pos) (tS T X.K R a H0 (n + 1) (.par i j cu cv)) := by
  have h' := h
  unfold swapOk at h'
  simp only [Bool.and_eq_true, beq_iff_eq, Bool.not_eq_true', List.all_cons, List.all_nil, Bool.and_true] at h'
  obtain ⟨⟨⟨⟨⟨⟨h1, h2⟩, h3⟩, h4⟩, h5⟩, h6⟩, h7⟩ := h'
  have nu : notStar u = true := by cases u <;> first | rfl | (simp [nstar] at h5)
  have nv : notStar v = true := by cases v <;> first | rfl | (simp [nstar] at h5)
  have lx : X.env.scope.names.lookup x = some .local := by rw [g.hs]; exact h1
  have ly : X.env.scope.names.lookup y = some .local := by rw [g.hs]; exact h2
  have hpa := pa_cons (ev_ok m FU sc X u cu g.toGood hu).1 (pa_cons (ev_ok m FU sc X v cv g.toGood hv).1 pa_nil (star1 nv)) (star1 nu)
  refine (ps_par g.calm (by rw [g.hN]; exact g.nd) (g.ix hi) (g.ix hj) (by simpa using hij) lx ly hpa (swap_ok g.hs g.kind h) (by cases u <;> rfl)).imp fun D σ H hq => ?_
  obtain ⟨O, env, S, fl, S', st, ev, po⟩ := hq
  simp only [evS, Option.bind_eq_some_iff] at ev
  obtain ⟨⟨r, S1⟩, e1, ⟨q, S2⟩, e2, e3⟩ := ev
  split at e3
  · cases e3
  rename_i ho
  simp only [Bool.or_eq_true, not_or, Bool.not_eq_true] at ho
  simp only [Option.some.injEq, Prod.mk.injEq] at e3
  obtain ⟨rfl, rfl⟩ := e3
  refine ⟨_, a, env, S, r, S1, st.at, e1, fun w H1 k1 s1 r1 => ⟨_, a, env, S1, q, S2, (st.step k1 s1).at, e2, fun w2 H2 k2 s2 r2 => ⟨w, w2, rfl, ?_⟩⟩⟩
  exact po _ _ _ ((Ev.of k1).trans (Ev.of k2)) ((((st.step k1 s1).step k2 s2).set ((r1.keep k2).rep ho.1) i).set (r2.rep ho.2) j)
/-- targets = a tuple, not swapped -/
theorem ps_asgP {m : Nat} {es vs : List Expr} {k k2 : Nat} {tp p2 : Pos} {l : List Nat} (g : GoodS T bts N sc X) (ht : chkTg N sc (.Tuple es k tp) (.tp l) = true) (hc : chkE bts N m sc (.Tuple vs k2 p2) c = true) (h2 : swapNo sc es = true) : PS X (.Assign [.Tuple es k tp] (.Tuple vs k2 p2) pos) (tS T X.K R a H0 (n + 1) (.asg (.tp l) c)) := by
  refine (ps_asg (ev_ok m FU sc X _ c g.toGood hc).1 (pg_ev g.calm g.sto ht) (hs := rfl) (hw := swap_no g.hs h2) rfl).imp fun D σ H h => asg_imp h
/-- xs[k], by values -/
theorem get_list : PGet X (rIxL X.K) := by
  intro pins s σ H x y v u Q I rx ry h
  obtain ⟨p, xs, i, z, rfl, rfl, hq, he, q⟩ := h
  cases rx
  obtain ⟨t, rfl⟩ := ry
  obtain ⟨its, r, pl, hz⟩ := I.list hq
  obtain ⟨j, h1, h2, h3, h4, h5⟩ := atI_get he
  obtain ⟨w, ew, rw'⟩ := r.get h2
  have hl := r.length
  have hn := line63
  have fin : EP X pins σ Q w s := ⟨z, H, I, rw', q⟩
  by_cases h0 : 0 ≤ i
  · have hj : i.toNat = j := by
      rw [seqIndex_of h0 h5] at h1
      exact Option.some.inj h1
    exact wpAny_mono (wpAny_getItem_list (Q := fun r s' => r = w ∧ EP X pins σ Q r s') pl.isList h0 (by omega) (by rw [hj]; simpa using ew) ⟨rfl, fin⟩) (fun _ _ z => z.2) fun _ _ z => z
  · have hj : (i + (its.toArray.size : Int)).toNat = j := by
      rw [seqIndex_neg (by omega) h4] at h1
      rw [List.size_toArray, ← hl]
      exact Option.some.inj h1
    exact wpAny_mono (wpAny_getItem_list_neg (Q := fun r s' => r = w ∧ EP X pins σ Q r s') pl.isList (by omega) (by rw [List.size_toArray] <;> omega) (by omega) (by rw [hj]; simpa using ew) ⟨rfl, fin⟩) (fun _ _ z => z.2) fun _ _ z => z
/-- name[k] += e, ints -/
theorem ps_augIV {i m : Nat} {y : Str} {py p : Pos} (g : GoodS T bts N sc X) (hi : (N[i]? == some y) = true) (hv : vis sc y = true) (hd : okName y = true) (hc : chkE bts N m sc e c = true) (hk : chkE bts N m sc k d = true) (hns : notSlice k = true) :
    PS X (.AugAssign (.Subscript (.Name y py) k p) .Add e pos) (tS T X.K R a H0 (n + 1) (.augI i d c)) := by
  obtain ⟨d1, d2⟩ := okN hd
  have he := (ev_ok m FU sc X e c g.toGood hc).1
  have hk := (ev_ok m FU sc X k d g.toGood hk).1
  refine (ps_augS (pe_var (g.ix hi) (g.toGood.vis hv) d1 d2) hk get_list he ip_add set_list (by intros; cases k <;> first | rfl | (simp [notSlice] at hns))).imp fun D σ H h => ?_
  obtain ⟨O, env, S, fl, S', st, ev, po⟩ := h
  simp only [evS, Option.bind_eq_some_iff] at ev
  obtain ⟨⟨z, S1⟩, e1, l, e2, e3⟩ := ev
  split at e3
  case h_2 => cases e3
  rename_i j hj
  have hj : z = .int j := hj
  subst hj
  simp only [Option.bind_eq_some_iff] at e3
  obtain ⟨old, e4, ⟨w, S2⟩, e5, e6⟩ := e3
  split at e6
  case h_2 => cases e6
  rename_i x0 y0 hy
  have hy : w = .int y0 := hy
  subst hy
  simp only [Option.map_eq_some_iff, Prod.mk.injEq] at e6
  obtain ⟨q, hq, rfl, rfl⟩ := e6
  have ho := own_at e2
  obtain ⟨la, vs, h1, h2, h3, h4, h5⟩ := st.own ho
  refine ⟨_, h1, _, a, env, S, _, S1, st.at, e1, fun u H1 k1 s1 r1 => ?_⟩
  have st1 := st.step k1 s1
  have h3' := k1.1 _ _ h3 h4
  obtain ⟨v0, g1, g2⟩ := (h5.keep k1).at e4
  have hv0 : v0 = .int x0 := by cases g2; rfl
  subst hv0
  refine ⟨la, vs, j, _, rfl, r1.int, SqL.of h3', g1, _, a, env, S1, _, S2, st1.at, e5, fun u2 H2 k2 s2 r2 => ⟨x0, y0, rfl, r2.int, ?_⟩⟩
  have st2 := st1.step k2 s2
  have h3'' := k2.1 _ _ h3' h4
  obtain ⟨m1, m2⟩ := st2.mut (xs' := l.set q (.int (x0 + y0))) (vs' := vs.set q (.int (x0 + y0))) ho h1 h2 h3'' (((h5.keep k1).keep k2).set q (.int _))
  exact ⟨la, vs, j, q, rfl, r1.int, h3'', by rw [h5.length]; exact hq, po _ _ _ (((Ev.of k1).trans (Ev.of k2)).trans m2) m1⟩
end
end Ws

/-! Ws14c: [xs.pop(e) for k in range(..)], wrapped. -/
namespace Ws
open PySem PySem.Spec PyProof.Rows L2

theorem seqIx_of {n : Nat} {i : Int} {m : Nat} (h : ixN n i = some m) : seqIndex? i n = some m ∧ m < n := by
  unfold ixN at h
  unfold seqIndex?
  split at h
  · rename_i h0
    split at h
    · rename_i h1
      cases h
      have e : (if i < 0 then i + (n : Int) else i) = i := if_neg (by omega)
      refine ⟨?_, by omega⟩
      dsimp only
      rw [e, decide_eq_true h0, decide_eq_true h1]; rfl
    · cases h
  · rename_i h0
    split at h
    · rename_i h1
      cases h
      have e : (if i < 0 then i + (n : Int) else i) = i + n := if_pos (by omega)
      refine ⟨?_, by omega⟩
      dsimp only
      rw [e, decide_eq_true (by omega : 0 ≤ i + (n : Int)), decide_eq_true (by omega : i + (n : Int) < n)]; rfl
    · cases h
section
variable {K : PySem.W.Frag} {R : Addr → Prop} {a : Addr} {H H' : Hp} {O O' : Addr → Prop}
mutual
/-- what reaches no owned list stays while only owned lists change -/
theorem Rep.un (v : ∀ b o, H b = some o → b ≠ a → ¬ O b → H' b = some o ∧ ¬ O' b) (ho : ∀ b, O b → ∃ vs, H b = some (.lst vs)) : ∀ {u : V} {x : PV}, Rep K (nO R O) a H u x → Rep K (nO R O') a H' u x
  | _, _, .non => .non
  | _, _, .bl b => .bl b
  | _, _, .int i => .int i
  | _, _, .str s => .str s
  | _, _, .ty n => .ty n
  | _, _, .stm => .stm
  | _, _, .tup h n r => .tup (v _ _ h n fun o => by obtain ⟨vs, e⟩ := ho _ o; rw [h] at e; cases e).1 n (Reps.un v ho r)
  | _, _, .lst h n q r => .lst (v _ _ h n q.2).1 n ⟨q.1, (v _ _ h n q.2).2⟩ (Reps.un v ho r)
theorem Reps.un (v : ∀ b o, H b = some o → b ≠ a → ¬ O b → H' b = some o ∧ ¬ O' b) (ho : ∀ b, O b → ∃ vs, H b = some (.lst vs)) : ∀ {u : List V} {x : List PV}, Reps K (nO R O) a H u x → Reps K (nO R O') a H' u x
  | _, _, .nil => .nil
  | _, _, .cons r rs => .cons (Rep.un v ho r) (Reps.un v ho rs)
end
mutual
/-- an owned list that nothing reaches may change -/
theorem Rep.updO {D : Addr} {l l' : List V} (hO : O D) (hD : H D = some (.lst l)) : ∀ {u : V} {x : PV}, Rep K (nO R O) a H u x → Rep K (nO R O) a (L2.upd H D (.lst l')) u x
  | _, _, .non => .non
  | _, _, .bl b => .bl b
  | _, _, .int i => .int i
  | _, _, .str s => .str s
  | _, _, .ty n => .ty n
  | _, _, .stm => .stm
  | _, _, .tup h n r => .tup (by rw [upd_ne (ne_of h hD (fun z => by cases z))]; exact h) n (Reps.updO hO hD r)
  | _, _, .lst h n q r => .lst (by rw [upd_ne (fun e => q.2 (by rw [e]; exact hO))]; exact h) n q (Reps.updO hO hD r)
theorem Reps.updO {D : Addr} {l l' : List V} (hO : O D) (hD : H D = some (.lst l)) : ∀ {u : List V} {x : List PV}, Reps K (nO R O) a H u x → Reps K (nO R O) a (L2.upd H D (.lst l')) u x
  | _, _, .nil => .nil
  | _, _, .cons r rs => .cons (Rep.updO hO hD r) (Reps.updO hO hD rs)
end
end
section
variable {K : PySem.W.Frag} {R : Addr → Prop} {a : Addr} {H0 H : Hp} {O : Addr → Prop} {σ : L2.St} {env : Env} {S : Strm} {D : Addr}
abbrev oD (O : Addr → Prop) (D : Addr) : Addr → Prop := fun b => O b ∨ b = D
theorem nO_oD {R O : Addr → Prop} {D b : Addr} (h : but (nO R O) D b) : nO R (oD O D) b := ⟨h.1.1, fun z => z.elim h.1.2 h.2⟩
theorem nO_of {R O : Addr → Prop} {D b : Addr} (h : nO R (oD O D) b) : nO R O b := ⟨h.1, fun z => h.2 (.inl z)⟩
/-- a new list that no name holds -/
theorem StR.addO (s : StR K R a H0 O σ H env S) (hD : H D = none) : StR K R a H0 (oD O D) σ (L2.upd H D (.lst [])) env S ∧ ∀ (j : Nat) (ys : List PV), env[j]? = some (some (.own ys)) → σ[j]? ≠ some (some (V.ref D)) := by
  have hDa : D ≠ a := s.fr.ne hD
  have k : Keep a H (L2.upd H D (.lst [])) := Keep.upd hD
  have nO' : ∀ b, O b → b ≠ D := fun b o e => by obtain ⟨⟨vs, z⟩, _⟩ := s.ow b o; rw [e, hD] at z; cases z
  have hne : ∀ (j : Nat) (ys : List PV), env[j]? = some (some (.own ys)) → σ[j]? ≠ some (some (V.ref D)) := fun j ys g e => by
    obtain ⟨l, h1, h2⟩ := s.od j ys g
    rw [h1] at e
    cases e
    exact nO' _ h2 rfl
  refine ⟨⟨s.f0, s.kp.trans k, fun b o => ?_, ⟨s.en.len, fun j x g => ?_⟩, fun j ys g => ?_, s.ds, ?_⟩, hne⟩
  · rcases o with o | rfl
    · obtain ⟨⟨vs, z⟩, h2, h3⟩ := s.ow b o
      exact ⟨⟨vs, by rw [upd_ne (nO' b o)]; exact z⟩, h2, h3⟩
    · exact ⟨⟨[], upd_same⟩, s.kp.fresh hD, hDa⟩
  · obtain ⟨v, g1, g2⟩ := s.en.get j x g
    refine ⟨v, g1, ?_⟩
    have r := g2.toD hD k
    cases x with
    | own ys => obtain ⟨l, vs, e, h, n, q⟩ := r; exact ⟨l, vs, e, h, n, q.mono (fun b => nO_oD) Keep.refl⟩
    | _ => exact Rep.mono (fun b => nO_oD) Keep.refl r
  · obtain ⟨l, h1, h2⟩ := s.od j ys g
    exact ⟨l, h1, .inl h2⟩
  · have r := SRel.toD hD s.sr
    cases S with
    | none => trivial
    | some t =>
      obtain ⟨scr, c, kk⟩ := t
      obtain ⟨q, h1, h2, h3, h4⟩ := r
      exact ⟨q, by rw [upd_ne (Ne.symm hDa)]; exact h1, by rw [upd_ne h4.2]; exact h2, h3, nO_oD h4⟩
/-- it grows -/
theorem StR.updO (s : StR K R a H0 O σ H env S) {l l' : List V} (hO : O D) (hD : H D = some (.lst l)) (hn : ∀ (j : Nat) (ys : List PV), env[j]? = some (some (.own ys)) → σ[j]? ≠ some (some (V.ref D))) : StR K R a H0 O σ (L2.upd H D (.lst l')) env S := by
  obtain ⟨_, hl0, hla⟩ := s.ow D hO
  refine ⟨s.f0, Keep.updD hl0 hla s.kp, fun b o => ?_, ⟨s.en.len, fun j x g => ?_⟩, s.od, s.ds, ?_⟩
  · obtain ⟨⟨ws, e⟩, h2, h3⟩ := s.ow b o
    by_cases hb : b = D
    · subst hb; exact ⟨⟨l', upd_same⟩, h2, h3⟩
    · exact ⟨⟨ws, by rw [upd_ne hb]; exact e⟩, h2, h3⟩
  · obtain ⟨v, g1, g2⟩ := s.en.get j x g
    refine ⟨v, g1, ?_⟩
    cases x with
    | own ys =>
      obtain ⟨la, vs, rfl, h, n, q⟩ := g2
      have hne : la ≠ D := fun e => hn j ys g (by rw [g1, e])
      exact ⟨la, vs, rfl, by rw [upd_ne hne]; exact h, n, q.updO hO hD⟩
    | _ => exact Rep.updO hO hD g2
  · have r := s.sr
    cases S with
    | none => trivial
    | some t =>
      obtain ⟨scr, c, kk⟩ := t
      obtain ⟨q, h1, h2, h3, h4⟩ := r
      exact ⟨q, by rw [upd_ne (Ne.symm hla)]; exact h1, by rw [upd_ne (fun e => h4.2 (by rw [e]; exact hO))]; exact h2, h3, h4⟩
/-- it is handed out -/
theorem StR.lessO (s : StR K R a H0 (oD O D) σ H env S) (hn : ∀ (j : Nat) (ys : List PV), env[j]? = some (some (.own ys)) → σ[j]? ≠ some (some (V.ref D))) : StR K R a H0 O σ H env S := by
  refine ⟨s.f0, s.kp, fun b o => s.ow b (.inl o), ⟨s.en.len, fun j x g => ?_⟩, fun j ys g => ?_, s.ds, s.sr.mono fun b => nO_of⟩
  · obtain ⟨v, g1, g2⟩ := s.en.get j x g
    refine ⟨v, g1, ?_⟩
    cases x with
    | own ys => obtain ⟨l, vs, e, h, n, q⟩ := g2; exact ⟨l, vs, e, h, n, q.mono (fun b => nO_of) Keep.refl⟩
    | _ => exact Rep.mono (fun b => nO_of) Keep.refl g2
  · obtain ⟨l, h1, h2⟩ := s.od j ys g
    refine ⟨l, h1, h2.resolve_right fun e => ?_⟩
    subst e
    exact hn j ys g h1
end
theorem popL_step {step : List PV → PV → Strm → Option ((PV × List PV) × Strm)} {its : List PV} {l : List PV} {S S2 : Strm} {ys lf : List PV} {x : PV} {i : Nat} (h : popL step (its.drop i) l S = some ((ys, lf), S2)) (hx : its[i]? = some x) :
    ∃ y l1 S1 ys', step l x S = some ((y, l1), S1) ∧ popL step (its.drop (i + 1)) l1 S1 = some ((ys', lf), S2) ∧ ys = y :: ys' := by
  obtain ⟨hi, e⟩ := List.getElem?_eq_some_iff.mp hx
  have ed : its.drop i = x :: its.drop (i + 1) := by rw [List.drop_eq_getElem_cons hi, e]
  rw [ed] at h
  simp only [popL, Option.bind_eq_some_iff, Option.map_eq_some_iff] at h
  obtain ⟨⟨⟨y, l1⟩, S1⟩, h1, ⟨⟨ys', l2⟩, S3⟩, h2, h3⟩ := h
  simp only [Prod.mk.injEq] at h3
  obtain ⟨⟨h3, rfl⟩, rfl⟩ := h3
  exact ⟨y, l1, S1, ys', h1, h2, h3.symm⟩
theorem Reps.eraseIdx {K : PySem.W.Frag} {R : Addr → Prop} {a : Addr} {H : Hp} : ∀ {vs : List V} {xs : List PV} (k : Nat), Reps K R a H vs xs → Reps K R a H (vs.eraseIdx k) (xs.eraseIdx k)
  | _, _, _, .nil => by simpa using Reps.nil
  | _, _, 0, .cons r rs => by simpa using rs
  | _, _, k + 1, .cons r rs => by simpa using Reps.cons r (Reps.eraseIdx k rs)
section
variable {T : Tbl} {X : Cx} {R : Addr → Prop} {a : Addr} {H0 : Hp}
/-- where a pop's list stands, and what is wanted behind it -/
def tPop (T : Tbl) (K : PySem.W.Frag) (R : Addr → Prop) (a : Addr) (H0 : Hp) (i : Nat) (e : CE) (tg : Nat) (it : CI) (vs : List Nat) (w : List Bi) : TE := fun σ H Q =>
  ∃ O env S its S1 l xs l' S2 z, StR K R a H0 O σ H env S ∧ evI T FU it env S = some (its, S1) ∧ ownAt env i = some l ∧ its.length ≤ LIM ∧ popL (popS (fun e env S => evE T FU e env S) e tg i vs env) its l S1 = some ((xs, l'), S2) ∧ wrapV w (.lst xs) = some z ∧ z.isOwn = false ∧
    ∀ v H', StR K R a H0 O σ H' (env.set i (some (.own l'))) S2 → Ev a O H O H' → Rep K (nO R O) a H' v z → Q v H'
theorem pop_lc {i : Nat} {e : CE} {tg : Nat} {it : CI} {vs : List Nat} {σ : L2.St} {H : Hp} {Q : VK} (htg : vs.contains tg = true) (hi : vs.contains i = false) (hq : tPop T X.K R a H0 i e tg it vs [] σ H Q) :
    tLc (tI T X.K false FU it) (gTg X.K (.nm tg)) tYes (tBM X.K "list" rPopAt (tVar i) (tCons (tV T X.K FU e) tNil)) vs σ H Q := by
  obtain ⟨O, env, S, its, S1, l, xs, l', S2, z, st, ei, eo, hlen, ep, ew, hz, q⟩ := hq
  simp only [wrapV, Option.some.injEq] at ew
  subst ew
  refine ⟨_, a, env, S, its, S1, st.at, ei, fun J H1 k1 s1 io D hD => ?_⟩
  have st1 := st.step k1 s1
  have ho : ∀ b, O b → ∃ vs, H1 b = some (.lst vs) := fun b o => (st1.ow b o).1
  have nOD : ∀ b, O b → b ≠ D := fun b o e => by obtain ⟨ws, z⟩ := ho b o; rw [e, hD] at z; cases z
  obtain ⟨G, Y, wk, hG, hY⟩ := io.walk
  have hil : i < env.length := (List.getElem?_eq_some_iff.mp (own_at eo)).1
  have hnvs : i ∉ vs := by simpa using hi
  have ei0 : env.set i (some (.own l)) = env := by
    refine List.ext_getElem? fun j => ?_
    by_cases hj : i = j
    · subst hj; rw [List.getElem?_set_self hil]; exact (own_at eo).symm
    · rw [List.getElem?_set_ne hj]
  obtain ⟨stD, hne⟩ := st1.addO hD
  have hne' : ∀ (l : List PV) (j : Nat) (ys : List PV), (env.set i (some (.own l)))[j]? = some (some (.own ys)) → σ[j]? ≠ some (some (V.ref D)) := fun l j ys g => by
    by_cases hj : i = j
    · subst hj; exact hne i _ (own_at eo)
    · rw [List.getElem?_set_ne hj] at g; exact hne j ys g
  refine lc_it wk (fun n H' => ∃ l1 Si acc accP rest, StR X.K R a H0 (oD O D) σ H' (env.set i (some (.own l1))) Si ∧ (∀ b o, H1 b = some o → b ≠ a → ¬ O b → H' b = some o) ∧ H' D = some (.lst acc) ∧ Reps X.K (nO R (oD O D)) a H' acc accP ∧ acc.length ≤ n ∧
      popL (popS (fun e env S => evE T FU e env S) e tg i vs env) (its.drop n) l1 Si = some ((rest, l'), S2) ∧ accP ++ rest = xs) ?_ ?_ ?_ ?_
  · refine ⟨l, S1, [], [], xs, by rw [ei0]; exact stD, fun b o e n _ => ?_, upd_same, .nil, Nat.le_refl _, ep, rfl⟩
    rw [upd_ne (ne_of_none e hD)]; exact e
  · rintro n H' hn ⟨l1, Si, acc, accP, rest, st2, kk, _⟩
    refine hG H' fun b o e nb hh => kk b o e nb ?_
    rcases hh with hh | hh | ⟨ws, rfl⟩
    · cases hh
    · exact hh.2
    · intro o'
      obtain ⟨us, e'⟩ := ho b o'
      rw [e] at e'
      cases e'
  · rintro n x H2 H3 hn ⟨l1, Si, acc, accP, rest, st2, kk, d2, r2, l2, c2, p2⟩ y3
    have un : ∀ b o, H1 b = some o → b ≠ a → ¬ O b → H2 b = some o ∧ ¬ oD O D b := fun b o e nb no => ⟨kk b o e nb no, fun z => z.elim no (ne_of_none e hD)⟩
    obtain ⟨nw, y, hy, ry⟩ := hY (nO R (oD O D)) H2 st2.fr (fun vs xs r => r.un un ho) n x H3 hn y3
    obtain ⟨yv, l3, S3, ys', hst, c3, ej⟩ := popL_step c2 hy
    simp only [popS, Option.bind_eq_some_iff] at hst
    obtain ⟨env1, hb, ⟨rv, S4⟩, he, hl⟩ := hst
    split at hl
    case h_2 => cases hl
    rename_i j hj
    have hj : rv = .int j := hj
    subst hj
    split at hl
    case isFalse => cases hl
    rename_i hr
    simp only [Option.bind_eq_some_iff, Option.map_eq_some_iff, Prod.mk.injEq] at hl
    obtain ⟨m, hm, y0, hy0, ⟨rfl, rfl⟩, rfl⟩ := hl
    have k3 : Keep a H2 H3 := nw.keep
    have st3 := st2.step k3 (nw.srel st2.sr)
    have en : EnvE X.K (nO R (oD O D)) a H3 (wipe σ vs) (wipeE (env.set i (some (.own l1))) vs) := st3.en.wipe _
    refine bind_ok en ry.toE hb fun σ' en' hw => ⟨?_, ?_⟩
    · rw [hw vs fun k hk => by simp only [tgIx, List.mem_singleton] at hk; subst hk; simpa using htg, wipe_wipe]
    dsimp only [tYes]
    rw [if_pos rfl]
    -- the list's place
    have es : σ'[i]? = σ[i]? := by
      have e1 : wipe σ' vs = wipe (wipe σ vs) vs := hw vs fun k hk => by simp only [tgIx, List.mem_singleton] at hk; subst hk; simpa using htg
      have e2 : (wipe σ' vs)[i]? = (wipe (wipe σ vs) vs)[i]? := by rw [e1]
      rw [wipe_get, wipe_get, wipe_get, if_neg (fun z => hnvs z.1), if_neg (fun z => hnvs z.1), if_neg (fun z => hnvs z.1)] at e2
      exact e2
    have gi : (env.set i (some (.own l1)))[i]? = some (some (.own l1)) := List.getElem?_set_self hil
    obtain ⟨la, vl, g1, g2, g3, g4, g5⟩ := st3.own gi
    refine ⟨_, es.trans g1, ⟨?_, ?_⟩⟩
    · exact .inl ⟨rfl, vl, SqL.of g3⟩
    refine ⟨_, a, env1, Si, _, S4, ⟨st3.fr, en', st3.sr⟩, he, fun u H4 k4 s4 r4 => ?_⟩
    have ru : u = .int j := r4.int
    subst ru
    have st4 := st3.step k4 s4
    have g3' := k4.1 _ _ g3 g4
    have hll : vl.length = l1.length := g5.length
    obtain ⟨q1, q2⟩ := seqIx_of hm
    obtain ⟨w, hw1, hw2⟩ := (g5.keep k4).get hy0
    have hjr := inR_of hr
    refine ⟨la, vl, j, m, w, rfl, rfl, g3', by omega, by omega, by rw [hll]; exact q1, hw1, ?_⟩
    have d4 : H4 D = some (.lst acc) := k4.1 _ _ (k3.1 _ _ d2 (st2.ow D (.inr rfl)).2.2) (st2.ow D (.inr rfl)).2.2
    have hlaD : la ≠ D := fun z => hne' l1 i l1 gi (by rw [g1, z])
    obtain ⟨m1, m2⟩ := st4.mut (xs' := l1.eraseIdx m) (vs' := vl.eraseIdx m) gi g1 g2 g3' ((g5.keep k4).eraseIdx m)
    rw [List.set_set] at m1
    have d5 : (L2.upd H4 la (.lst (vl.eraseIdx m))) D = some (.lst acc) := by rw [upd_ne (Ne.symm hlaD)]; exact d4
    refine ⟨acc, d5, ?_, l1.eraseIdx m, S4, acc ++ [w], accP ++ [y0], ys', m1.updO (.inr rfl) d5 (hne' _), fun b o e nb no => ?_, upd_same, ?_, ?_, c3, ?_⟩
    · have : sizeLine = 16777216 := sizeLine_eq
      have : its.length ≤ 1000000 := hlen
      omega
    · have nD : b ≠ D := ne_of_none e hD
      have nla : b ≠ la := fun z => no ((show oD O D la from g2).elim (fun o => z ▸ o) fun e => absurd e hlaD)
      rw [upd_ne nD, upd_ne nla]
      exact k4.1 _ _ (k3.1 _ _ (kk b o e nb no) nb) nb
    · have ra : Reps X.K (nO R (oD O D)) a (L2.upd H4 la (.lst (vl.eraseIdx m))) (acc ++ [w]) (accP ++ [y0]) := (((r2.keep k3).keep k4).append (.cons hw2 .nil)).updO g2 g3'
      exact ra.updO (.inr rfl) d5
    · rw [List.length_append, List.length_singleton]; omega
    · rw [← p2, ej, List.append_assoc]; rfl
  · rintro H' ⟨l1, Si, acc, accP, rest, st2, kk, d2, r2, l2, c2, p2⟩
    rw [List.drop_length] at c2
    simp only [popL, Option.some.injEq, Prod.mk.injEq] at c2
    obtain ⟨⟨rfl, rfl⟩, rfl⟩ := c2
    rw [List.append_nil] at p2
    subst p2
    have fin := st2.lessO (hne' _)
    have nDO : ¬ O D := fun o => nOD D o rfl
    refine q _ H' fin ((Ev.of k1).trans ⟨fun b o e nb no => ⟨kk b o e nb no, no⟩⟩) (.lst d2 (st2.ow D (.inr rfl)).2.2 ⟨st.f0.fc D (st2.ow D (.inr rfl)).2.1, nDO⟩ (r2.mono (fun b => nO_of) Keep.refl))
end
end Ws

/-! Ws14d: a pop's list, wrapped, stored or returned. -/
namespace Ws
open PySem PySem.Spec PyProof.Rows L2

theorem ofD_own (d : PyData) : (ofD d).isOwn = false := by cases d <;> simp [ofD, PV.isOwn]
theorem mnV_own {l : List PV} {z : PV} (h1 : mnV l = some z) : z.isOwn = false := by
  unfold mnV at h1
  obtain ⟨ds, h2, h3⟩ := Option.bind_eq_some_iff.mp h1
  cases ds with
  | nil => cases h3
  | cons d dr =>
    dsimp only at h3
    split at h3
    · cases h3; exact ofD_own _
    · cases h3
theorem biV_own {b : Bi} {l : List PV} {z : PV} (h : biV b l = some z) : z.isOwn = false := by
  unfold biV at h
  split at h
  all_goals first
    | (obtain ⟨l0, h0, h1⟩ := Option.bind_eq_some_iff.mp h; exact mnV_own h1)
    | (cases h; rfl)
    | (simp only [Option.map_eq_some_iff, Option.bind_eq_some_iff] at h; obtain ⟨_, _, rfl⟩ := h; rfl)
    | (simp only [Option.map_eq_some_iff, Option.bind_eq_some_iff] at h; obtain ⟨_, _, _, _, rfl⟩ := h; rfl)
    | cases h
theorem wrapV_own {xs : List PV} : ∀ {w : List Bi} {z : PV}, wrapV w (.lst xs) = some z → z.isOwn = false
  | [], z, h => by simp only [wrapV, Option.some.injEq] at h; subst h; rfl
  | b :: w, z, h => by
    simp only [wrapV, Option.bind_eq_some_iff] at h
    obtain ⟨y, _, h2⟩ := h
    exact biV_own h2
section
variable (bts N : List Str)
def chkPop (m : Nat) (sc : Scope) (i : Nat) (c : CE) (tg : Nat) (it : CI) (own : List (Str × Nat)) : List Bi → Expr → Bool
  | [], e => match e with
    | .ListComp (.Call (.Attribute (.Name y _) f ap) [k] [] p) [⟨t, it', [], 0⟩] scope _ =>
      (f == ("pop" : Str)) && (N[i]? == some y) && vis (relS scope sc) y && okName y && notStar k && (ap.endLine == p.line) && chkI bts (chkE bts N m sc) sc t it' it && notSet it' && blkC N sc scope own && chkTg N scope t (.nm tg) &&
        (own.map (·.2)).contains tg && !((own.map (·.2)).contains i) && chkE bts N m (relS scope sc) k c
    | _ => false
  | b :: w, e => match e with
    | .Call (.Name x _) [e'] [] _ => (x == biName b) && gl sc x && bts.contains x && notStar e' && chkPop m sc i c tg it own w e'
    | _ => false
end
section
variable {T : Tbl} {bts N : List Str} {sc : Scope} {X : Cx} {n : Nat} {R : Addr → Prop} {a : Addr} {H0 : Hp} {pos : Pos}
theorem pe_popV {m : Nat} {i : Nat} {c : CE} {tg : Nat} {it : CI} {own : List (Str × Nat)} (g : GoodS T bts N sc X) : ∀ (w : List Bi) (e : Expr), chkPop bts N m sc i c tg it own w e = true → PE X e (tPop T X.K R a H0 i c tg it (own.map (·.2)) w)
  | [], e, h => by
    unfold chkPop at h
    split at h
    case h_2 => cases h
    rename_i y py f ap k p t it' scope pl
    simp only [Bool.and_eq_true, Bool.not_eq_true'] at h
    obtain ⟨⟨⟨⟨⟨⟨⟨⟨⟨⟨⟨⟨h1, h2⟩, h3⟩, h4⟩, h5⟩, h6⟩, h7⟩, h8⟩, h9⟩, h10⟩, h11⟩, h12⟩, h13⟩ := h
    have h1 : f = ("pop" : Str) := by simpa using h1
    subst h1
    obtain ⟨d1, d2⟩ := okN h4
    have ihP : ∀ e c, chkE bts N m sc e c = true → PE X e (tV T X.K FU c) := fun e c h => (ev_ok m FU sc X e c g.toGood h).1
    refine (pe_lc (wi := tI T X.K false FU it) (g := gTg X.K (.nm tg)) (tt := tYes) (te := tBM X.K "list" rPopAt (tVar i) (tCons (tV T X.K FU c) tNil)) g.calm (by rw [g.hN]; exact g.nd) (chkI_ev (ok := false) g.toGood ihP h7) (blkOk_by (by rw [g.hN, g.hs]; exact h9))
      (fun s H C cl fp => pg_ev (X := X.blk s H scope (compEnvC scope cl C X.env) fp) g.calm (g.toGood.sto s H scope C cl fp) h10) (fun s H C cl fp => pts_nil) (fun s H C cl fp => ?_) (fold_id h8)).imp fun σ H Q hq => pop_lc h11 h12 hq
    have gb := g.toGood.blk s H scope C cl fp
    exact pe_bm PySem.F.plainAttrs_list PySem.F.slot_list_pop PySem.F.type_list_pop mt_popAt (pe_var (gb.ix h2) (gb.vis h3) d1 d2) (pa_cons (ev_ok m FU _ _ k c gb h13).1 pa_nil (star1 h5)) rfl (by rw [star1 h5]; rfl) h6 (star1 h5) rfl
  | b :: w, e, h => by
    unfold chkPop at h
    split at h
    case h_2 => cases h
    rename_i x px e' pl
    simp only [Bool.and_eq_true] at h
    obtain ⟨⟨⟨⟨h1, h2⟩, h3⟩, h4⟩, h5⟩ := h
    have h1 : x = biName b := by simpa using h1
    subst h1
    have he := pe_popV g w e' h5
    obtain ⟨r, r1, r2⟩ := bi_ok (X := X) g.room g.calm b
    have key : PE X (.Call (.Name (biName b) px) (e' :: []) [] pl) (tCB r (tCons (tPop T X.K R a H0 i c tg it (own.map (·.2)) w) tNil)) := by
      have hv := biBoot b
      have hg := g.toGood.gl h2
      have hm := g.toGood.bt h3 (btV_bi b)
      have ha := pa_cons he pa_nil (star1 h4)
      cases b <;> first
        | exact pe_callB r1 hg hm hv ha (biN _) (biD _) (star1 h4) rfl
        | exact pe_callTy r1 hg hm hv ha (biN _) (biD _) (star1 h4) rfl
    refine key.imp fun σ H Q hq => ?_
    obtain ⟨O, env, S, its, S1, l, xs, l', S2, z, st, ei, eo, hlen, ep, ew, hz, q⟩ := hq
    simp only [wrapV, Option.bind_eq_some_iff] at ew
    obtain ⟨y, ew, eb⟩ := ew
    refine ⟨O, env, S, its, S1, l, xs, l', S2, y, st, ei, eo, hlen, ep, ew, wrapV_own ew, fun v H' st' ev' rv => ?_⟩
    exact r2 st'.fr st'.sr (.cons rv.toE .nil) eb fun u H2 k2 s2 ru => q u H2 (st'.step k2 s2) (ev'.trans (Ev.of k2)) (ru.rep hz)
theorem ps_popA {m j i tg : Nat} {w : List Bi} {b : Bi} {c : CE} {it : CI} {own : List (Str × Nat)} {y : Str} {py : Pos} {e : Expr} (g : GoodS T bts N sc X) (hi : (N[j]? == some y) = true) (hl : loc sc y = true) (h : chkPop bts N m sc i c tg it own (b :: w) e = true) :
    PS X (.Assign [.Name y py] e pos) (tS T X.K R a H0 (n + 1) (.pop (some j) (b :: w) i c tg it own)) := by
  have hs : ∀ l, swapsWith e (some (.Name y py)) l X.env = pure false := by
    intro l
    unfold chkPop at h
    split at h
    case h_2 => cases h
    rfl
  refine (ps_setPlain g hi hl hs (pe_popV (R := R) (a := a) (H0 := H0) g (b :: w) e h)).imp fun D σ H hq => ?_
  obtain ⟨O, env, S, fl, S', st, ev, po⟩ := hq
  simp only [evS, Option.bind_eq_some_iff] at ev
  obtain ⟨⟨its, S1⟩, e1, l, e2, ev⟩ := ev
  split at ev
  case isFalse => cases ev
  rename_i hlen
  simp only [Option.bind_eq_some_iff] at ev
  obtain ⟨⟨⟨xs, l'⟩, S2⟩, e3, z, e4, e5⟩ := ev
  split at e5
  · cases e5
  rename_i hz
  simp only [Option.some.injEq, Prod.mk.injEq] at e5
  obtain ⟨rfl, rfl⟩ := e5
  refine ⟨O, env, S, its, S1, l, xs, l', S2, z, st, e1, e2, by simpa using hlen, e3, e4, by simpa using hz, fun v H' st' ev' rv => ?_⟩
  exact po O _ H' ev' (st'.set rv j)
theorem ps_popR {m i tg : Nat} {w : List Bi} {c : CE} {it : CI} {own : List (Str × Nat)} {e : Expr} (g : GoodS T bts N sc X) (h : chkPop bts N m sc i c tg it own w e = true) :
    PS X (.Return (some e) pos) (tS T X.K R a H0 (n + 1) (.pop none w i c tg it own)) := by
  refine (ps_ret (pe_popV (R := R) (a := a) (H0 := H0) g w e h)).imp fun D σ H hq => ?_
  obtain ⟨O, env, S, fl, S', st, ev, po⟩ := hq
  simp only [evS, Option.bind_eq_some_iff] at ev
  obtain ⟨⟨its, S1⟩, e1, l, e2, ev⟩ := ev
  split at ev
  case isFalse => cases ev
  rename_i hlen
  simp only [Option.bind_eq_some_iff] at ev
  obtain ⟨⟨⟨xs, l'⟩, S2⟩, e3, z, e4, e5⟩ := ev
  split at e5
  · cases e5
  rename_i hz
  simp only [Option.some.injEq, Prod.mk.injEq] at e5
  obtain ⟨rfl, rfl⟩ := e5
  refine ⟨O, env, S, its, S1, l, xs, l', S2, z, st, e1, e2, by simpa using hlen, e3, e4, by simpa using hz, fun v H' st' ev' rv => ?_⟩
  exact po v H' st'.kp (st'.sr.mono fun _ => nO_le) (rv.mono (fun _ => nO_le) Keep.refl)
/-- names[i].pop(e), what it gives dropped -/
theorem ps_popxV {i m : Nat} {y : Str} {e : Expr} {c : CE} {py apos p : Pos} (g : GoodS T bts N sc X) (hi : (N[i]? == some y) = true) (hv : vis sc y = true) (hd : okName y = true) (hc : chkE bts N m sc e c = true) (hs : notStar e = true) (hline : (apos.endLine == p.line) = true) :
    PS X (.Expr (.Call (.Attribute (.Name y py) "pop" apos) [e] [] p) pos) (tS T X.K R a H0 (n + 1) (.popx i c)) := by
  obtain ⟨d1, d2⟩ := okN hd
  have he := (ev_ok m FU sc X e c g.toGood hc).1
  refine (ps_expr (pe_bm PySem.F.plainAttrs_list PySem.F.slot_list_pop PySem.F.type_list_pop mt_popAt (pe_var (g.ix hi) (g.toGood.vis hv) d1 d2) (pa_cons he pa_nil (star1 hs)) rfl (by rw [star1 hs]; rfl) hline (star1 hs) rfl)).imp fun D σ H h => ?_
  obtain ⟨O, env, S, fl, S', st, ev, po⟩ := h
  simp only [evS, Option.bind_eq_some_iff] at ev
  obtain ⟨⟨x, S1⟩, e1, l, e2, e3⟩ := ev
  split at e3
  case h_2 => cases e3
  rename_i j hj
  have hj : x = .int j := hj
  subst hj
  split at e3
  case isFalse => cases e3
  rename_i hr
  simp only [Option.map_eq_some_iff, Prod.mk.injEq] at e3
  obtain ⟨k, hk, rfl, rfl⟩ := e3
  have ho := own_at e2
  obtain ⟨la, vs, h1, h2, h3, h4, h5⟩ := st.own ho
  refine ⟨_, h1, .inl ⟨rfl, vs, SqL.of h3⟩, _, a, env, S, _, S1, st.at, e1, fun v H' kk s r => ?_⟩
  have rv := r.int
  subst rv
  have st' := st.step kk s
  have h3' := kk.1 _ _ h3 h4
  obtain ⟨q1, q2⟩ := seqIx_of hk
  have hll : vs.length = l.length := h5.length
  obtain ⟨m1, m2⟩ := st'.mut (xs' := l.eraseIdx k) (vs' := vs.eraseIdx k) ho h1 h2 h3' ((h5.keep kk).eraseIdx k)
  have hjr := inR_of hr
  exact ⟨la, vs, j, k, _, rfl, rfl, h3', by omega, by omega, by rw [hll]; exact q1, List.getElem?_eq_getElem (by omega), po _ _ _ ((Ev.of kk).trans m2) m1⟩
end
end Ws

/-! Ws15: ifs, loops, returns, blocks; a def by its body. -/
namespace Ws
open PySem PySem.Spec PyProof.Rows L2

section
variable {K : PySem.W.Frag} {R : Addr → Prop} {a : Addr} {H H' : Hp} {O O' : Addr → Prop}
mutual
theorem Rep.ev (v : Ev a O H O' H') (ho : ∀ b, O b → ∃ vs, H b = some (.lst vs)) : ∀ {u : V} {x : PV}, Rep K (nO R O) a H u x → Rep K (nO R O') a H' u x
  | _, _, .non => .non
  | _, _, .bl b => .bl b
  | _, _, .int i => .int i
  | _, _, .str s => .str s
  | _, _, .ty n => .ty n
  | _, _, .stm => .stm
  | _, _, .tup h n r => .tup (v.kp _ _ h n fun o => by obtain ⟨vs, e⟩ := ho _ o; rw [h] at e; cases e).1 n (Reps.ev v ho r)
  | _, _, .lst h n q r => .lst (v.kp _ _ h n q.2).1 n ⟨q.1, (v.kp _ _ h n q.2).2⟩ (Reps.ev v ho r)
theorem Reps.ev (v : Ev a O H O' H') (ho : ∀ b, O b → ∃ vs, H b = some (.lst vs)) : ∀ {u : List V} {x : List PV}, Reps K (nO R O) a H u x → Reps K (nO R O') a H' u x
  | _, _, .nil => .nil
  | _, _, .cons r rs => .cons (Rep.ev v ho r) (Reps.ev v ho rs)
end
end

section
variable {T : Tbl} {bts N : List Str} {sc : Scope} {X : Cx} {n : Nat} {R : Addr → Prop} {a : Addr} {H0 : Hp} {e k : Expr} {c d : CE} {pos : Pos}
theorem ps_ifeV {m : Nat} {A B : List Stmt} {la lb : List CS} (g : GoodS T bts N sc X) (hc : chkE bts N m sc e c = true) (ha : PSs X A (tSs T X.K R a H0 n la)) (hb : PSs X B (tSs T X.K R a H0 n lb)) : PS X (.If e A B pos) (tS T X.K R a H0 (n + 1) (.ife c la lb)) := by
  refine (ps_if (ev_ok m FU sc X e c g.toGood hc).2 ha hb).imp fun D σ H h => ?_
  obtain ⟨O, env, S, fl, S', st, ev, po⟩ := h
  simp only [evS, Option.bind_eq_some_iff] at ev
  obtain ⟨⟨x, S1⟩, e1, b, e2, e3⟩ := ev
  refine ⟨_, a, env, S, x, S1, b, st.at, e1, e2, fun H' k s => ?_⟩
  cases b with
  | true =>
    rw [if_pos rfl] at e3
    exact iteT ⟨O, env, S1, fl, S', st.step k s, e3, po.from (Ev.of k)⟩
  | false =>
    rw [if_neg (by decide)] at e3
    exact iteF ⟨O, env, S1, fl, S', st.step k s, e3, po.from (Ev.of k)⟩
theorem ps_retV {m : Nat} (g : GoodS T bts N sc X) (hc : chkE bts N m sc e c = true) : PS X (.Return (some e) pos) (tS T X.K R a H0 (n + 1) (.ret c)) := by
  refine (ps_ret (ev_ok m FU sc X e c g.toGood hc).1).imp fun D σ H h => ?_
  obtain ⟨O, env, S, fl, S', st, ev, po⟩ := h
  simp only [evS, Option.bind_eq_some_iff] at ev
  obtain ⟨⟨x, S1⟩, e1, e2⟩ := ev
  split at e2
  · cases e2
  rename_i hx
  simp only [Option.some.injEq, Prod.mk.injEq] at e2
  obtain ⟨rfl, rfl⟩ := e2
  exact ⟨_, a, env, S, x, S1, st.at, e1, fun v H' k s r => po v H' (st.kp.trans k) (s.mono fun _ => nO_le) ((r.rep (by simpa using hx)).mono (fun _ => nO_le) Keep.refl)⟩
theorem ps_retNV : PS X (.Return none pos) (tS T X.K R a H0 (n + 1) (.ret .non)) := by
  refine ps_retN.imp fun D σ H h => ?_
  obtain ⟨O, env, S, fl, S', st, ev, po⟩ := h
  simp only [evS, evE, Option.bind_some, PV.isOwn, Option.some.injEq, Prod.mk.injEq] at ev
  obtain ⟨rfl, rfl⟩ := ev
  exact po _ H st.kp (st.sr.mono fun _ => nO_le) .non
theorem ps_retOV {i : Nat} {y : Str} {py : Pos} (g : GoodS T bts N sc X) (hi : (N[i]? == some y) = true) (hv : vis sc y = true) (hd : okName y = true) : PS X (.Return (some (.Name y py)) pos) (tS T X.K R a H0 (n + 1) (.retO i)) := by
  obtain ⟨d1, d2⟩ := okN hd
  refine (ps_ret (pe_var (g.ix hi) (g.toGood.vis hv) d1 d2)).imp fun D σ H h => ?_
  obtain ⟨O, env, S, fl, S', st, ev, po⟩ := h
  simp only [evS, Option.map_eq_some_iff, Prod.mk.injEq] at ev
  obtain ⟨l, e1, rfl, rfl⟩ := ev
  obtain ⟨p, vs, h1, h2, h3, h4, h5⟩ := st.own (own_at e1)
  exact ⟨_, h1, po _ H st.kp (st.sr.mono fun _ => nO_le) (.lst h3 h4 (st.f0.fc p (st.ow p h2).2.1) (h5.mono (fun _ => nO_le) Keep.refl))⟩
theorem ps_expV {m : Nat} (g : GoodS T bts N sc X) (hc : chkE bts N m sc e c = true) (hn : noComp e = true) : PS X (.Expr e pos) (tS T X.K R a H0 (n + 1) (.exp c)) := by
  refine (ps_expr (ev_ok m FU sc X e c g.toGood hc).1 (sw_no hn)).imp fun D σ H h => ?_
  obtain ⟨O, env, S, fl, S', st, ev, po⟩ := h
  simp only [evS, Option.map_eq_some_iff, Prod.mk.injEq] at ev
  obtain ⟨⟨x, S1⟩, e1, rfl, rfl⟩ := ev
  exact ⟨_, a, env, S, x, S1, st.at, e1, fun v H' k s r => po O σ H' (Ev.of k) (st.step k s)⟩
theorem ps_stopV {st : Stmt} : PS X st (tS T X.K R a H0 (n + 1) .stop) := ⟨fun _ _ _ _ _ _ h => by
  obtain ⟨_, _, _, _, _, _, ev, _⟩ := h
  simp [evS] at ev⟩
theorem ps_rseV {st : Stmt} {c : Str} {l : List CE} : PS X st (tS T X.K R a H0 (n + 1) (.rse c l)) := ⟨fun _ _ _ _ _ _ h => by
  obtain ⟨_, _, _, _, _, _, ev, _⟩ := h
  simp [evS] at ev⟩
theorem ps_passV : PS X (.Pass pos) (tS T X.K R a H0 (n + 1) .pass) := ps_pass.imp fun D σ H h => by
  obtain ⟨O, env, S, fl, S', st, ev, po⟩ := h
  simp only [evS, Option.some.injEq, Prod.mk.injEq] at ev
  obtain ⟨rfl, rfl⟩ := ev
  exact po O σ H Ev.refl st
/-- name += e, ints -/
theorem ps_augV {i m : Nat} {y : Str} {py : Pos} {o : BOp} (g : GoodS T bts N sc X) (hi : (N[i]? == some y) = true) (hl : loc sc y = true) (hc : chkE bts N m sc e c = true) (ho : o = .add ∨ o = .sub) : PS X (.AugAssign (.Name y py) (opOf o) e pos) (tS T X.K R a H0 (n + 1) (.aug i o c)) := by
  have he := (ev_ok m FU sc X e c g.toGood hc).1
  have key : ∀ (ti : TIp) (f : Int → Int → Int), PIp X (opOf o) ti → (ti = ipI f) → (∀ (u w : Int) (env : Env) (S : Strm) (x : PV) (S1 : Strm) fl S', (match o, x with | .add, .int y => some (Fl.nx (env.set i (some (.int (u + y)))), S1) | .sub, .int y => some (Fl.nx (env.set i (some (.int (u - y)))), S1) | _, _ => none) = some (fl, S') → ∃ w, x = .int w ∧ fl = .nx (env.set i (some (.int (f u w)))) ∧ S' = S1) → PS X (.AugAssign (.Name y py) (opOf o) e pos) (tS T X.K R a H0 (n + 1) (.aug i o c)) := by
    intro ti f hp hti hm
    refine (ps_aug (by rw [g.hN]; exact g.nd) (g.ix hi) (g.toGood.loc hl) he hp (.inl (g.fn _))).imp fun D σ H h => ?_
    obtain ⟨O, env, S, fl, S', st, ev, po⟩ := h
    simp only [evS] at ev
    split at ev
    case h_2 => cases ev
    rename_i u hu
    simp only [Option.bind_eq_some_iff] at ev
    obtain ⟨⟨x, S1⟩, e1, e2⟩ := ev
    obtain ⟨w, rfl, rfl, rfl⟩ := hm u 0 env S x S1 fl S' e2
    obtain ⟨v, h1, h2⟩ := st.en.get i _ hu
    have h2 := h2.int
    subst h2
    refine ⟨_, h1, _, a, env, S, _, _, st.at, e1, fun v' H' k s r => ?_⟩
    rw [hti]
    exact ⟨u, w, rfl, r.int, po _ _ _ (Ev.of k) ((st.step k s).set (.int _) i)⟩
  rcases ho with rfl | rfl
  · refine key _ (fun i j => i + j) ip_add rfl fun u w env S x S1 fl S' h => ?_
    cases x <;> simp at h
    obtain ⟨rfl, rfl⟩ := h
    exact ⟨_, rfl, rfl, rfl⟩
  · refine key _ (fun i j => i - j) ip_sub rfl fun u w env S x S1 fl S' h => ?_
    cases x <;> simp at h
    obtain ⟨rfl, rfl⟩ := h
    exact ⟨_, rfl, rfl, rfl⟩
theorem forL_step {step : PV → Env → Strm → Option (Fl × Strm)} {l : List PV} {env : Env} {S S2 : Strm} {fl : Fl} {x : PV} {i : Nat} (h : forL step (l.drop i) env S = some (fl, S2)) (hx : l[i]? = some x) :
    ∃ r S1, step x env S = some (r, S1) ∧ (match r with | .nx env' => forL step (l.drop (i + 1)) env' S1 = some (fl, S2) | .rt v => fl = .rt v ∧ S2 = S1) := by
  obtain ⟨hi, e⟩ := List.getElem?_eq_some_iff.mp hx
  have ed : l.drop i = x :: l.drop (i + 1) := by rw [List.drop_eq_getElem_cons hi, e]
  rw [ed] at h
  simp only [forL, Option.bind_eq_some_iff] at h
  obtain ⟨⟨r, S1⟩, h1, h2⟩ := h
  refine ⟨r, S1, h1, ?_⟩
  cases r with
  | nx env' => exact h2
  | rt v =>
    simp only [Option.some.injEq, Prod.mk.injEq] at h2
    exact ⟨h2.1.symm, h2.2.symm⟩
theorem ps_forV {m : Nat} {tg it : Expr} {body : List Stmt} {t : Tg} {it' : CI} {b : List CS} (g : GoodS T bts N sc X) (ht : chkTg N sc tg t = true) (hi : chkI bts (chkE bts N m sc) sc tg it it' = true) (hs : notSet it = true) (hb : PSs X body (tSs T X.K R a H0 n b)) :
    PS X (.For tg it body [] pos) (tS T X.K R a H0 (n + 1) (.for_ t it' b)) := by
  have ihP : ∀ e c, chkE bts N m sc e c = true → PE X e (tV T X.K FU c) := fun e c h => (ev_ok m FU sc X e c g.toGood h).1
  refine (ps_for g.pass g.calm (chkI_ev (ok := false) g.toGood ihP hi) (pg_ev g.calm g.sto ht) hb (fold_id hs)).imp fun D σ H h => ?_
  obtain ⟨O, env, S, fl, S', st, ev, po⟩ := h
  simp only [evS, Option.bind_eq_some_iff] at ev
  obtain ⟨⟨its, S1⟩, e1, e2⟩ := ev
  refine ⟨_, a, env, S, its, S1, st.at, e1, fun J H1 k1 s1 io => ?_⟩
  have st1 := st.step k1 s1
  obtain ⟨G, Y, wk, hG, hY⟩ := io.walk
  have ho : ∀ b, O b → ∃ vs, H1 b = some (.lst vs) := fun b o => (st1.ow b o).1
  refine for_it wk (fun i σ' H' => ∃ O' env' Si, StR X.K R a H0 O' σ' H' env' Si ∧ Ev a O H1 O' H' ∧ forL (fun x env S => (bindT t x env).bind fun e1 => seqL (fun c env S => evS T n c env S) b e1 S) (its.drop i) env' Si = some (fl, S')) ?_ ?_ ?_ ?_
  · exact ⟨O, env, S1, st1, Ev.refl, e2⟩
  · rintro i σ' H' hi ⟨O', env', Si, st', v', f'⟩
    refine hG H' fun b o e nb hh => (v'.kp b o e nb ?_).1
    rcases hh with hh | hh | ⟨vs, rfl⟩
    · cases hh
    · exact hh.2
    · intro o'
      obtain ⟨ws, e'⟩ := ho b o'
      rw [e] at e'
      cases e'
  · rintro i x σ' H' H'' hi ⟨O', env', Si, st', v', f'⟩ y'
    obtain ⟨nw, y, hy, ry⟩ := hY (nO R O') H' st'.fr (fun vs xs r => r.ev v' ho) i x H'' hi y'
    obtain ⟨r, S2, hst, hr⟩ := forL_step f' hy
    simp only [Option.bind_eq_some_iff] at hst
    obtain ⟨env1, hb1, hsq⟩ := hst
    have st2 := st'.step nw.keep (nw.srel st'.sr)
    refine st2.bind ry.toE hb1 fun σ2 st3 => ⟨O', env1, Si, r, S2, st3, hsq, ?_⟩
    cases r with
    | nx env2 => exact fun O3 σ3 H3 v3 st4 => ⟨O3, env2, S2, st4, (v'.trans (Ev.of nw.keep)).trans v3, hr⟩
    | rt v =>
      obtain ⟨rfl, rfl⟩ := hr
      exact po
  · rintro σ' H' ⟨O', env', Si, st', v', f'⟩
    rw [List.drop_length] at f'
    simp only [forL, Option.some.injEq, Prod.mk.injEq] at f'
    obtain ⟨rfl, rfl⟩ := f'
    exact po O' σ' H' ((Ev.of k1).trans v') st'
/-- blocks -/
theorem pss_nilV : PSs X [] (tSs T X.K R a H0 n []) := pss_nil.imp fun D σ H h => by
  obtain ⟨O, env, S, fl, S', st, ev, po⟩ := h
  simp only [seqL, Option.some.injEq, Prod.mk.injEq] at ev
  obtain ⟨rfl, rfl⟩ := ev
  exact po O σ H Ev.refl st
theorem pss_consV {s : Stmt} {ss : List Stmt} {c : CS} {cs : List CS} (h1 : PS X s (tS T X.K R a H0 n c)) (h2 : PSs X ss (tSs T X.K R a H0 n cs)) : PSs X (s :: ss) (tSs T X.K R a H0 n (c :: cs)) := by
  refine (pss_cons h1 h2).imp fun D σ H h => ?_
  obtain ⟨O, env, S, fl, S', st, ev, po⟩ := h
  simp only [seqL, Option.bind_eq_some_iff] at ev
  obtain ⟨⟨r, S1⟩, e1, e2⟩ := ev
  refine ⟨O, env, S, r, S1, st, e1, ?_⟩
  cases r with
  | nx env' => exact fun O' σ' H' v st' => ⟨O', env', S1, fl, S', st', e2, po.from v⟩
  | rt v =>
    simp only [Option.some.injEq, Prod.mk.injEq] at e2
    obtain ⟨rfl, rfl⟩ := e2
    exact po
theorem pss_frzV {ss : List Stmt} {i : Nat} {cs : List CS} (h2 : PSs X ss (tSs T X.K R a H0 (n + 1) cs)) : PSs X ss (tSs T X.K R a H0 (n + 1) (.frz i :: cs)) := by
  refine h2.imp fun D σ H h => ?_
  obtain ⟨O, env, S, fl, S', st, ev, po⟩ := h
  simp only [seqL, evS, Option.bind_eq_some_iff, Option.map_eq_some_iff] at ev
  obtain ⟨⟨r, S1⟩, ⟨l, e1, e2⟩, e3⟩ := ev
  simp only [Prod.mk.injEq] at e2
  obtain ⟨rfl, rfl⟩ := e2
  obtain ⟨O', st', le⟩ := st.frz (own_at e1)
  exact ⟨O', _, _, fl, S', st', e3, po.from ⟨fun b o h n q => ⟨h, fun z => q (le b z)⟩⟩⟩
end

/-! ### the check of a block -/
section
variable (bts N : List Str) (sc : Scope)
def chkB : Nat → List Stmt → List CS → Bool
  | 0, _, _ => false
  | m + 1, ss, cs =>
    match ss, cs with
    | ss, .frz _ :: cs => chkB m ss cs
    | [], [] => true
    | s :: ss, c :: cs => (match s, c with
      | _, .stop => true
      | .Raise (some (.Call (.Name x _) (y :: es) [] _)) none _, .rse c l => (x == c) && gl sc x && okName x && chkL (chkE bts N m sc) (y :: es) l
      | .Pass _, .pass => true
      | .Assign [.Name y _] e _, .asg (.nm i) c => (N[i]? == some y) && loc sc y && chkE bts N (m + 1) sc e c && notC2 c
      | .Assign [.Tuple [.Name x px, .Name y py] _ _] (.Tuple [u, v] _ _) _, .par i j cu cv => (N[i]? == some x) && (N[j]? == some y) && !(i == j) && swapOk sc x y px py [u, v] && chkE bts N m sc u cu && chkE bts N m sc v cv
      | .Assign [.Tuple es k tp] (.Tuple vs k2 p2) _, .asg (.tp l) c => chkTg N sc (.Tuple es k tp) (.tp l) && chkE bts N m sc (.Tuple vs k2 p2) c && swapNo sc es
      | .Assign [.Tuple es k tp] e _, .asg (.tp l) c => chkTg N sc (.Tuple es k tp) (.tp l) && chkE bts N m sc e c && notTupE e
      | .Assign [.Name y _] e _, .asgO i c => (N[i]? == some y) && loc sc y && chkE bts N (m + 1) sc e c && noBool e
      | .Expr (.Call (.Attribute (.Name y _) f ap) [e] [] p) _, .app i c => (f == ("append" : Str)) && (N[i]? == some y) && vis sc y && okName y && chkE bts N m sc e c && notStar e && (ap.endLine == p.line)
      | .Expr (.Call (.Attribute (.Name y _) f ap) [e] [] p) _, .ext i c => (f == ("extend" : Str)) && (N[i]? == some y) && vis sc y && okName y && chkE bts N m sc e c && notStar e && (ap.endLine == p.line)
      | .Expr (.Call (.Attribute (.Name y _) f ap) [e] [] p) _, .popx i c => (f == ("pop" : Str)) && (N[i]? == some y) && vis sc y && okName y && chkE bts N m sc e c && notStar e && (ap.endLine == p.line)
      | .Assign [.Subscript (.Name y _) k _] e _, .setI i d c => (N[i]? == some y) && vis sc y && okName y && chkE bts N m sc e c && chkE bts N m sc k d && noComp e && notSlice k
      | .Assign [.Subscript (.Name y _) (.Constant (.int j) _ _) _] e _, .sset i j' c => (j == j') && (N[i]? == some y) && vis sc y && okName y && chkE bts N m sc e c && noComp e
      | .Expr (.Call (.Attribute (.Call (.Name f _) (y :: es) [] _) at' ap) [e] [] p) _, .drop f' l c => (f == f') && (at' == ("append" : Str)) && gl sc f && okName f && chkL (chkE bts N m sc) (y :: es) l && chkE bts N m sc e c && notStar e && (ap.endLine == p.line)
      | .AugAssign (.Subscript (.Name y _) k _) .Add e _, .augI i d c => (N[i]? == some y) && vis sc y && okName y && chkE bts N m sc e c && chkE bts N m sc k d && notSlice k
      | .AugAssign (.Name y _) o e _, .aug i o' c => (o == opOf o') && (o' == .add || o' == .sub) && (N[i]? == some y) && loc sc y && chkE bts N m sc e c
      | .If e A B _, .ife c la lb => chkE bts N m sc e c && chkB m A la && chkB m B lb
      | .For tg it body [] _, .for_ t it' b => chkTg N sc tg t && chkI bts (chkE bts N m sc) sc tg it it' && notSet it && chkB m body b
      | .Return none _, .ret .non => true
      | .Return (some e) _, .ret c => chkE bts N m sc e c
      | .Return (some (.Name y _)) _, .retO i => (N[i]? == some y) && vis sc y && okName y
      | .Expr e _, .exp c => chkE bts N m sc e c && noComp e
      | .Assign [.Name y _] e _, .pop (some j) (b :: w) i c tg it own => (N[j]? == some y) && loc sc y && chkPop bts N m sc i c tg it own (b :: w) e
      | .Return (some e) _, .pop none w i c tg it own => chkPop bts N m sc i c tg it own w e
      | _, _ => false) && chkB m ss cs
    | _, _ => false
end
theorem blk_ok {T : Tbl} {bts N : List Str} {sc : Scope} {X : Cx} {R : Addr → Prop} {a : Addr} {H0 : Hp} (g : GoodS T bts N sc X) : ∀ (m n : Nat) (ss : List Stmt) (cs : List CS), chkB bts N sc m ss cs = true → PSs X ss (tSs T X.K R a H0 n cs)
  | 0, n, ss, cs, h => by simp [chkB] at h
  | m + 1, 0, ss, cs, h => by
    cases cs with
    | nil =>
      cases ss with
      | nil => exact pss_nilV
      | cons s ss => simp [chkB] at h
    | cons c cs => exact ⟨fun _ _ _ _ _ _ h => by
        obtain ⟨_, _, _, _, _, _, ev, _⟩ := h
        simp [seqL, evS] at ev⟩
  | m + 1, n + 1, ss, cs, h => by
    unfold chkB at h
    split at h
    · exact pss_frzV (blk_ok g m (n + 1) _ _ h)
    · exact pss_nilV
    · rw [Bool.and_eq_true] at h
      refine pss_consV ?_ (blk_ok g m (n + 1) _ _ h.2)
      have h := h.1
      split at h
      · exact ps_stopV
      · exact ps_rseV
      · exact ps_passV
      · simp only [Bool.and_eq_true] at h
        exact ps_asgN g h.1.1.1 h.1.1.2 h.1.2 h.2
      · simp only [Bool.and_eq_true, Bool.not_eq_true'] at h
        obtain ⟨⟨⟨⟨⟨h1, h2⟩, h3⟩, h4⟩, h5⟩, h6⟩ := h
        exact ps_parV g h1 h2 h3 h4 h5 h6
      · simp only [Bool.and_eq_true] at h
        exact ps_asgP g h.1.1 h.1.2 h.2
      · simp only [Bool.and_eq_true] at h
        exact ps_asgT g h.1.1 h.1.2 h.2
      · simp only [Bool.and_eq_true] at h
        exact ps_asgO g h.1.1.1 h.1.1.2 h.1.2 h.2
      · simp only [Bool.and_eq_true, beq_iff_eq] at h
        obtain ⟨⟨⟨⟨⟨⟨rfl, h1⟩, h2⟩, h3⟩, h4⟩, h5⟩, h6⟩ := h
        exact ps_appV g (by simpa using h1) h2 h3 h4 h5 (by simpa using h6)
      · simp only [Bool.and_eq_true, beq_iff_eq] at h
        obtain ⟨⟨⟨⟨⟨⟨rfl, h1⟩, h2⟩, h3⟩, h4⟩, h5⟩, h6⟩ := h
        exact ps_extV g (by simpa using h1) h2 h3 h4 h5 (by simpa using h6)
      · simp only [Bool.and_eq_true, beq_iff_eq] at h
        obtain ⟨⟨⟨⟨⟨⟨rfl, h1⟩, h2⟩, h3⟩, h4⟩, h5⟩, h6⟩ := h
        exact ps_popxV g (by simpa using h1) h2 h3 h4 h5 (by simpa using h6)
      · simp only [Bool.and_eq_true] at h
        obtain ⟨⟨⟨⟨⟨⟨h1, h2⟩, h3⟩, h4⟩, h5⟩, h6⟩, h7⟩ := h
        exact ps_setIV g h1 h2 h3 h4 h5 h6 h7
      · simp only [Bool.and_eq_true, beq_iff_eq] at h
        obtain ⟨⟨⟨⟨⟨rfl, h1⟩, h2⟩, h3⟩, h4⟩, h5⟩ := h
        exact ps_ssetV g (by simpa using h1) h2 h3 h4 h5
      · simp only [Bool.and_eq_true, beq_iff_eq] at h
        obtain ⟨⟨⟨⟨⟨⟨⟨rfl, rfl⟩, h1⟩, h2⟩, h3⟩, h4⟩, h5⟩, h6⟩ := h
        exact ps_dropV g h1 h2 h3 h4 h5 (by simpa using h6)
      · simp only [Bool.and_eq_true] at h
        obtain ⟨⟨⟨⟨⟨h1, h2⟩, h3⟩, h4⟩, h5⟩, h6⟩ := h
        exact ps_augIV g h1 h2 h3 h4 h5 h6
      · simp only [Bool.and_eq_true, beq_iff_eq, Bool.or_eq_true] at h
        obtain ⟨⟨⟨⟨rfl, h1⟩, h2⟩, h3⟩, h4⟩ := h
        exact ps_augV g (by simpa using h2) h3 h4 h1
      · simp only [Bool.and_eq_true] at h
        exact ps_ifeV g h.1.1 (blk_ok g m n _ _ h.1.2) (blk_ok g m n _ _ h.2)
      · simp only [Bool.and_eq_true] at h
        exact ps_forV g h.1.1.1 h.1.1.2 h.1.2 (blk_ok g m n _ _ h.2)
      · exact ps_retNV
      · exact ps_retV g h
      · simp only [Bool.and_eq_true] at h
        exact ps_retOV g h.1.1 h.1.2 h.2
      · simp only [Bool.and_eq_true] at h
        exact ps_expV g h.1 h.2
      · simp only [Bool.and_eq_true] at h
        exact ps_popA g h.1.1 h.1.2 h.2
      · exact ps_popR g h
      · cases h
    · cases h
end Ws

/-! Ws16: a def of the text keeps its promise; tables of defs. -/
namespace Ws
open PySem PySem.Spec PyProof.Rows L2

section
variable {P : Program} {w : World} {K : PySem.W.Frag} {mg : Str → Option Value} {base : Heap}
/-- what the top holds -/
structure TOk (P : Program) (w : World) (K : PySem.W.Frag) (mg : Str → Option Value) (base : Heap) (T : Tbl) (bts : List Str) (k : Nat) : Prop where
  fns : ∀ f φ, T.fn f = some φ → ∃ p fd ps j cx, ps.length = φ.1 ∧ mg f = some (.ref p) ∧ PySem.W.keepIn K (.ref p) = true ∧ Binds K fd ps [] ∧ FnOk P w K mg base cx j p fd ps (spF K φ.1 φ.2) ∧ j ≤ k ∧ ∀ Y : Cx, Y.prog = P → Y.w = w → Passes cx Y E0
  glo : ∀ x i, T.glo x = some i → ∃ t, mg x = some (.int i t)
  bts : ∀ b ∈ bts, mg b = btV b
theorem TOk.le {T : Tbl} {bts : List Str} {k k' : Nat} (t : TOk P w K mg base T bts k) (h : k ≤ k') : TOk P w K mg base T bts k' :=
  ⟨fun f φ e => let ⟨p, fd, ps, j, cx, h0, h1, h2, h3, h4, h5, h6⟩ := t.fns f φ e; ⟨p, fd, ps, j, cx, h0, h1, h2, h3, h4, Nat.le_trans h5 h, h6⟩, t.glo, t.bts⟩
def Tbl.add (T : Tbl) (f : Str) (n : Nat) (φ : Fn) : Tbl := { T with fn := fun x => if x = f then some (n, φ) else T.fn x }
theorem TOk.add {T : Tbl} {bts : List Str} {k : Nat} (t : TOk P w K mg base T bts k) {f : Str} {n : Nat} {φ : Fn} {p : Addr} {fd : FuncData} {ps : List Str} (hl : ps.length = n) (hm : mg f = some (.ref p)) (hk : PySem.W.keepIn K (.ref p) = true) (hb : Binds K fd ps []) (F : FnOk P w K mg base CX0 k p fd ps (spF K n φ)) :
    TOk P w K mg base (T.add f n φ) bts k := by
  refine ⟨fun g ψ e => ?_, t.glo, t.bts⟩
  unfold Tbl.add at e
  dsimp only at e
  split at e
  · rename_i h
    subst h
    simp only [Option.some.injEq] at e
    subst e
    exact ⟨p, fd, ps, k, CX0, hl, hm, hk, hb, F, Nat.le_refl _, fun Y _ _ => pass0⟩
  · exact t.fns g ψ e
/-- the values at the entry -/
theorem start_env {R : Addr → Prop} {a : Addr} {H : Hp} {N : List Str} {vs : List V} {xs : List PV} (r : Reps K R a H vs xs) : EnvE K R a H (L2.start N vs) (xs.map some ++ List.replicate (N.length - xs.length) none) := by
  have hl := r.length
  refine ⟨by unfold L2.start; simp [hl], fun i x h => ?_⟩
  by_cases hi : i < xs.length
  · rw [List.getElem?_append_left (by simpa using hi), List.getElem?_map] at h
    cases e : xs[i]? with
    | none => rw [e] at h; cases h
    | some y =>
      rw [e] at h
      simp only [Option.map_some, Option.some.injEq] at h
      subst h
      obtain ⟨v, h1, h2⟩ := r.get e
      refine ⟨v, ?_, h2.toE⟩
      unfold L2.start
      rw [List.getElem?_append_left (by simpa [hl] using hi), List.getElem?_map, h1]
      rfl
  · rw [List.getElem?_append_right (by simpa using hi), List.getElem?_replicate] at h
    split at h <;> cases h
theorem start_own {N : List Str} {xs : List PV} (ho : xs.all (fun x => !x.isOwn) = true) {i : Nat} {l : List PV} (h : (xs.map some ++ List.replicate (N.length - xs.length) none)[i]? = some (some (PV.own l))) : False := by
  by_cases hi : i < xs.length
  · rw [List.getElem?_append_left (by simpa using hi), List.getElem?_map] at h
    cases e : xs[i]? with
    | none => rw [e] at h; cases h
    | some y =>
      rw [e] at h
      simp only [Option.map_some, Option.some.injEq] at h
      subst h
      have := List.all_eq_true.mp ho _ (List.mem_of_getElem? e)
      simp [PV.isOwn] at this
  · rw [List.getElem?_append_right (by simpa using hi), List.getElem?_replicate] at h
    split at h <;> cases h
theorem Reps.noOwn {R : Addr → Prop} {a : Addr} {H : Hp} : ∀ {vs : List V} {xs : List PV}, Reps K R a H vs xs → xs.all (fun x => !x.isOwn) = true
  | _, _, .nil => rfl
  | _, _, .cons r t => by rw [List.all_cons, r.noOwn, Reps.noOwn t]; rfl
theorem good_def {T : Tbl} {bts N : List Str} {k : Nat} {ps : List Str} {qual : Str} {sc : Scope} {f : Addr} {cdv : Value} {A : Around} {outer : List PySem.Env} {s : Shared} {H : Hp} {E : XK} (t : TOk P w K mg base T bts k) (S : FnScope N ps sc)
    (hr : Room k (A.deeper (envOfC qual sc s.heap.objs.size f cdv))) : GoodS T bts N sc (cxOf CX0 P w K mg base N qual sc f cdv A outer s H E).nox where
  hN := rfl
  hs := rfl
  calm := rfl
  nd := S.nd
  room := hr.mono (Nat.zero_le _)
  fns := fun f φ e => let ⟨p, fd, ps, j, cx, h0, h1, h2, h3, h4, h5, h6⟩ := t.fns f φ e; ⟨⟨p, fd, ps, j, cx, h0, h1, h2, h3, h4, hr.mono h5, h6⟩⟩
  glo := t.glo
  bts := t.bts
  kind := S.kind
  fn := fun _ => rfl
  pass := PassesOwn.never
/-- THE RULE: a def by its text in short -/
theorem def_ok {T : Tbl} {bts N ps : List Str} {k m : Nat} {x qual : Str} {st : Stmt} {f : Addr} {fd : FuncData} {cs : List CS} (t : TOk P w K mg base T bts k) (F : Fun K x qual st f fd) (S : FnScope N ps (defScope st)) (hc : chkB bts N (defScope st) m (defBody st) cs = true) :
    FnOk P w K mg base CX0 (k + 1) f fd ps (spF K ps.length (evF T N.length cs)) := by
  refine F.ok S (fun vs H Q E h => ?_) (fun cdv A outer s H vs Q E hr h => ?_)
  · obtain ⟨R, a, xs, S, r, S', f0, rs, sr, hl, _⟩ := h
    rw [rs.length]; exact hl
  · obtain ⟨R, a, xs, S0, r, S', f0, rs, sr, hl, ev, q⟩ := h
    have g := good_def (E := E) (H := H) (outer := outer) t S hr
    refine ⟨_, blk_ok (R := R) (a := a) (H0 := H) g m FU _ _ hc, ?_⟩
    simp only [evF, Option.map_eq_some_iff] at ev
    obtain ⟨⟨fl, S1⟩, e1, e2⟩ := ev
    have ho := rs.noOwn
    refine ⟨fun _ => False, _, S0, fl, S1, ⟨f0, Keep.refl, fun b h => h.elim, (start_env (rs.mono (fun b h => ⟨h, fun z => z⟩) Keep.refl)), fun i xs h => (start_own ho h).elim, fun i j xs ys h => (start_own ho h).elim, sr.mono fun b h => ⟨h, fun z => z⟩⟩, e1, ?_⟩
    cases fl with
    | nx env' =>
      simp only [Prod.mk.injEq] at e2
      obtain ⟨rfl, rfl⟩ := e2
      exact fun O' σ' H' v st' => q .non H' st'.kp (st'.sr.mono fun _ => nO_le) .non
    | rt x =>
      simp only [Prod.mk.injEq] at e2
      obtain ⟨rfl, rfl⟩ := e2
      exact fun v H' k s r => q v H' k s r
end
end Ws

/-! Ws17: the stream is made; a law's own def. -/
namespace Ws
open PySem PySem.Spec PyProof.Rows L2

/-- [list(script), 0, 0] -/
def spStream (K : PySem.W.Frag) : Sp := fun vs H Q _ => ∃ (s : Addr) (ns : List Int), vs = [.ref s] ∧ SqL K H s (ns.map V.int) ∧ ∀ q p, H q = none → upd H q (.lst (ns.map V.int)) p = none → Q (.ref p) (upd (upd H q (.lst (ns.map V.int))) p (.lst [.ref q, .int 0, .int 0]))
def spLaw (K : PySem.W.Frag) : Sp := fun vs H Q _ => ∃ (a : Addr) (ns : List Int), vs = [.ref a] ∧ SqL K H a (ns.map V.int) ∧ ns.length ≤ 63 ∧ ∀ H', Q (.bl true) H'
section
variable {P : Program} {w : World} {K : PySem.W.Frag} {mg : Str → Option Value} {base : Heap}
theorem stream_ok {qual : Str} {st : Stmt} {f : Addr} {fd : FuncData} {p1 p2 p3 p4 p5 p6 p7 : Pos} {k1 k2 : Nat} (F : Fun K "_law_stream" qual st f fd) (S : FnScope ["script"] ["script"] (defScope st)) (hm : mg "list" = none) (hg : (defScope st).names.lookup ("list" : Str) = some .globalImplicit) (hs : (defScope st).names.lookup ("script" : Str) = some .local)
    (hb : defBody st = [.Return (some (.List [.Call (.Name "list" p1) [.Name "script" p2] [] p3, .Constant (.int 0) k1 p4, .Constant (.int 0) k2 p5] p6)) p7]) : FnOk P w K mg base CX0 1 f fd ["script"] (spStream K) := by
  refine F.ok S (fun vs H Q E h => ?_) (fun cdv A outer s H vs Q E hr h => ?_)
  · obtain ⟨p, ns, rfl, _⟩ := h
    rfl
  · obtain ⟨p, ns, rfl, h1, q⟩ := h
    rw [hb]
    refine ⟨_, pss_one (ps_ret (pe_lst (pa_cons (pe_callTy call_list_of hg hm (biBoot .list) (pa_cons (pe_var (i := 0) rfl (.inl hs)) pa_nil)) (pa_cons pe_int (pa_cons pe_int pa_nil))))), ?_⟩
    refine ⟨_, rfl, p, _, rfl, .inl h1, fun l hl => ⟨by show 3 ≤ sizeLine; decide, fun r hr => q l r hl hr⟩⟩
/-- what the law's rest is worth, from a fresh stream -/
def RestOk (T : Tbl) (n : Nat) (cs : List CS) : Prop := ∀ scr : List Int, scr.length ≤ 63 → ∃ S', seqL (fun c env S => evS T FU c env S) cs (none :: some .stm :: List.replicate n none) (some (scr, 0, 0)) = some (.rt (.bl true), S')
theorem law_ok {T : Tbl} {bts N0 : List Str} {k m : Nat} {qual : Str} {st : Stmt} {f fS : Addr} {fd fdS : FuncData} {cs : List CS} {rest : List Stmt} {p1 p2 p3 p4 p5 : Pos} (t : TOk P w K mg base T bts k) (F : Fun K "law" qual st f fd) (S : FnScope ("script" :: "stream" :: N0) ["script"] (defScope st))
    (FS : FnOk P w K mg base CX0 1 fS fdS ["script"] (spStream K)) (bS : Binds K fdS ["script"] []) (mS : mg "_law_stream" = some (.ref fS)) (kS : PySem.W.keepIn K (.ref fS) = true) (hk : 1 ≤ k)
    (hg : (defScope st).names.lookup ("_law_stream" : Str) = some .globalImplicit) (hs : (defScope st).names.lookup ("script" : Str) = some .local) (hst : loc (defScope st) "stream" = true)
    (hb : defBody st = .Assign [.Name "stream" p1] (.Call (.Name "_law_stream" p2) [.Name "script" p3] [] p4) p5 :: rest) (hc : chkB bts ("script" :: "stream" :: N0) (defScope st) m rest cs = true) (hR : RestOk T N0.length cs) :
    FnOk P w K mg base CX0 (k + 1) f fd ["script"] (spLaw K) := by
  refine F.ok S (fun vs H Q E h => ?_) (fun cdv A outer s H vs Q E hr h => ?_)
  · obtain ⟨p, ns, rfl, _⟩ := h
    rfl
  · obtain ⟨p, ns, rfl, h1, hl, q⟩ := h
    have g := good_def (E := E) (H := H) (outer := outer) t S hr
    obtain ⟨S', hS'⟩ := hR ns hl
    have first : PS (cxOf CX0 P w K mg base ("script" :: "stream" :: N0) qual (defScope st) f cdv A outer s H E).nox (.Assign [.Name "stream" p1] (.Call (.Name "_law_stream" p2) [.Name "script" p3] [] p4) p5) (tAsg (tCall (spStream K) [] E0 (tCons (tVar 0) tNil)) (gName 1)) :=
      ps_set (i := 1) S.nd rfl (g.toGood.loc hst) (pe_call FS (hr.mono hk) hg mS kS bS .nil pass0 (pa_cons (pe_var (i := 0) rfl (.inl hs)) pa_nil)) rfl (.inl rfl)
    have second : PSs (cxOf CX0 P w K mg base ("script" :: "stream" :: N0) qual (defScope st) f cdv A outer s H E).nox rest (fun D σ H => ∃ R a H0, tSs T K R a H0 FU cs D σ H) :=
      ⟨fun pins s σ H D I ⟨R, a, H0, h⟩ => (blk_ok (R := R) (a := a) (H0 := H0) g m FU _ _ hc).run pins s σ H D I h⟩
    rw [hb]
    refine ⟨_, pss_cons first second, ?_⟩
    refine ⟨_, rfl, p, ns, rfl, h1, fun q1 pp hq hp => ?_⟩
    have n1 : q1 ≠ pp := fun e => by rw [e, upd_same] at hp; cases hp
    have hlen : (L2.start ("script" :: "stream" :: N0) [V.ref p]).length = N0.length + 2 := by unfold L2.start; simp
    have hq' : (L2.upd (L2.upd H q1 (.lst (ns.map V.int))) pp (.lst [.ref q1, .int 0, .int 0])) q1 = some (.lst (ns.map V.int)) := by rw [upd_ne n1]; exact upd_same
    refine ⟨fun b => b ≠ pp, pp, L2.upd (L2.upd H q1 (.lst (ns.map V.int))) pp (.lst [.ref q1, .int 0, .int 0]), fun _ => False, none :: some .stm :: List.replicate N0.length none, some (ns, 0, 0), .rt (.bl true), S', ?_, hS', ?_⟩
    · refine ⟨⟨fun b hb e => (by rw [e, upd_same] at hb; cases hb), fun h => h rfl⟩, Keep.refl, fun b h => h.elim, ⟨?_, fun i x h => ?_⟩, fun i xs h => ?_, fun i j xs ys h => ?_, ⟨q1, upd_same, hq', n1, n1, fun z => z⟩⟩
      · rw [List.length_set, hlen]
        simp
      · match i, h with
        | 0, h => cases h
        | 1, h =>
          cases h
          exact ⟨.ref pp, List.getElem?_set_self (by rw [hlen]; omega), .stm⟩
        | i + 2, h =>
          simp only [List.getElem?_cons_succ, List.getElem?_replicate] at h
          split at h <;> cases h
      · match i, h with
        | 0, h => cases h
        | 1, h => cases h
        | i + 2, h =>
          simp only [List.getElem?_cons_succ, List.getElem?_replicate] at h
          split at h <;> cases h
      · match i, h with
        | 0, h => cases h
        | 1, h => cases h
        | i + 2, h =>
          simp only [List.getElem?_cons_succ, List.getElem?_replicate] at h
          split at h <;> cases h
    · intro v H' k' s' r'
      cases r'
      exact q H'
end
end Ws

/-! Ws18: how texts in short are worked out, step by step. -/
namespace Ws
open PySem PySem.Spec L2

section
variable {T : Tbl} {n : Nat} {env : Env} {S : Strm}
theorem e_non : evE T (n + 1) .non env S = some (.non, S) := rfl
theorem e_bl {b : Bool} : evE T (n + 1) (.bl b) env S = some (.bl b, S) := rfl
theorem e_int {i : Int} : evE T (n + 1) (.int i) env S = some (.int i, S) := rfl
theorem e_str {i : Str} : evE T (n + 1) (.str i) env S = some (.str i, S) := rfl
theorem e_ty {i : String} : evE T (n + 1) (.ty i) env S = some (.ty i, S) := rfl
def getV (o : Option (Option PV)) (S : Strm) : Option (PV × Strm) :=
  match o with
  | some (some x) => some (x, S)
  | _ => none
theorem e_var {i : Nat} : evE T (n + 1) (.var i) env S = getV env[i]? S := rfl
theorem getV_some {x : PV} : getV (some (some x)) S = some (x, S) := rfl
theorem e_glo {x : Str} : evE T (n + 1) (.glo x) env S = (T.glo x).map fun i => (.int i, S) := rfl
theorem e_tup {l : List CE} : evE T (n + 1) (.tup l) env S = (evL (fun e S => evE T n e env S) l S).bind fun r => if r.1.all (fun x => !x.isOwn) && decide (r.1.length ≤ LIM) then some (.tup r.1, r.2) else none := rfl
theorem e_lst {l : List CE} : evE T (n + 1) (.lst l) env S = (evL (fun e S => evE T n e env S) l S).bind fun r => if r.1.all (fun x => !x.isOwn) && decide (r.1.length ≤ LIM) then some (.lst r.1, r.2) else none := rfl
theorem e_bin {o : BOp} {a b : CE} : evE T (n + 1) (.bin o a b) env S = (evE T n a env S).bind fun r => (evE T n b env r.2).bind fun q => (binV o r.1 q.1).map fun x => (x, q.2) := rfl
def negV (r : PV × Strm) : Option (PV × Strm) :=
  match r.1 with
  | .int i => some (.int (-i), r.2)
  | _ => none
theorem e_neg {a : CE} : evE T (n + 1) (.neg a) env S = (evE T n a env S).bind negV := rfl
theorem negV_int {i : Int} : negV (.int i, S) = some (.int (-i), S) := rfl
theorem e_not {a : CE} : evE T (n + 1) (.not a) env S = (evE T n a env S).bind fun r => r.1.tru.map fun b => (.bl (!b), r.2) := rfl
def andV (r : PV × Strm) (k : Strm → Option (PV × Strm)) : Option (PV × Strm) :=
  match r.1 with
  | .bl true => k r.2
  | .bl false => some (.bl false, r.2)
  | _ => none
def orV (r : PV × Strm) (k : Strm → Option (PV × Strm)) : Option (PV × Strm) :=
  match r.1 with
  | .bl true => some (.bl true, r.2)
  | .bl false => k r.2
  | .lst l => if l.isEmpty then k r.2 else some (.lst l, r.2)
  | _ => none
theorem e_and {a b : CE} : evE T (n + 1) (.and a b) env S = (evE T n a env S).bind fun r => andV r fun S => evE T n b env S := rfl
theorem e_or {a b : CE} : evE T (n + 1) (.or a b) env S = (evE T n a env S).bind fun r => orV r fun S => evE T n b env S := rfl
theorem andV_bl {b : Bool} {k : Strm → Option (PV × Strm)} : andV (.bl b, S) k = if b then k S else some (.bl false, S) := by cases b <;> rfl
theorem orV_bl {b : Bool} {k : Strm → Option (PV × Strm)} : orV (.bl b, S) k = if b then some (.bl true, S) else k S := by cases b <;> rfl
/-- and, or of two tests without effect -/
theorem and_pure {b c : Bool} : (if b then some (PV.bl c, S) else some (PV.bl false, S)) = some (PV.bl (b && c), S) := by cases b <;> rfl
theorem or_pure {b c : Bool} : (if b then some (PV.bl true, S) else some (PV.bl c, S)) = some (PV.bl (b || c), S) := by cases b <;> rfl
theorem e_cmp {o : COp} {a b : CE} : evE T (n + 1) (.cmp o a b) env S = (evE T n a env S).bind fun r => (evE T n b env r.2).bind fun q => (cmpV o r.1 q.1).map fun x => (.bl x, q.2) := rfl
theorem e_chain {o o' : COp} {a b d : CE} : evE T (n + 1) (.chain o o' a b d) env S = (evE T n a env S).bind fun r => (evE T n b env r.2).bind fun q => (cmpV o r.1 q.1).bind fun x =>
      if x then (evE T n d env q.2).bind fun u => (cmpV o' q.1 u.1).map fun y => (.bl y, u.2) else some (.bl false, q.2) := rfl
theorem e_ite {d a b : CE} : evE T (n + 1) (.ite d a b) env S = (evE T n d env S).bind fun r => r.1.tru.bind fun x => if x then evE T n a env r.2 else evE T n b env r.2 := rfl
theorem e_idx {a i : CE} : evE T (n + 1) (.idx a i) env S = (evE T n a env S).bind fun r => (evE T n i env r.2).bind fun q => (idxS q.2 r.1 q.1).map fun x => (x, q.2) := rfl
theorem e_sli {a : CE} {lo hi : Option CE} : evE T (n + 1) (.sli a lo hi) env S = (evE T n a env S).bind fun r => (parV (fun e S => evE T n e env S) lo r.2).bind fun u => (parV (fun e S => evE T n e env S) hi u.2).bind fun v => (sliV r.1 u.1 v.1).map fun x => (x, v.2) := rfl
def callR (own : Bool) (S : Strm) (q : Out × Strm) : Option (PV × Strm) :=
  match q.1 with
  | .ret x => if own || (x.flat && (S.isSome || q.2.isNone)) then some (x, q.2) else none
  | .exc _ _ => none
theorem e_call {f : Str} {l : List CE} : evE T (n + 1) (.call f l) env S = (T.fn f).bind fun φ => (evL (fun e S => evE T n e env S) l S).bind fun r => if r.1.length = φ.1 then (φ.2 (r.1.map PV.thaw) r.2).bind (callR (r.1.all (fun x => !x.isOwn)) r.2) else none := rfl
theorem callR_ret {x : PV} {S S' : Strm} : callR true S (.ret x, S') = some (x, S') := rfl
theorem callR_flat {x : PV} {b : Bool} {S S' : Strm} (h : x.flat = true) (h' : (S.isSome || S'.isNone) = true) : callR b S (.ret x, S') = some (x, S') := by unfold callR; dsimp only; rw [h, h']; cases b <;> rfl
theorem e_bi {b : Bi} {l : List CE} : evE T (n + 1) (.bi b l) env S = (evL (fun e S => evE T n e env S) l S).bind fun r => (biV b r.1).map fun x => (x, r.2) := rfl
theorem e_comp {elt : CE} {tg : Tg} {it : CI} {ifs : Option CE} {own : List (Str × Nat)} : evE T (n + 1) (.comp elt tg it ifs own) env S = (itV true (fun e S => evE T n e env S) it S).bind fun its =>
      if its.1.length ≤ LIM then
        (compL (stepV (fun e env S => evE T n e env S) elt tg ifs (wipeE env (own.map (·.2)))) its.1 its.2).map fun r => (.lst r.1, r.2)
      else none := rfl
theorem e_comp2 {elt : CE} {tg : Tg} {it : CI} {ifs : Option CE} {tg1 : Tg} {it1 : CI} {ifs1 : Option CE} {own : List (Str × Nat)} : evE T (n + 1) (.comp2 elt tg it ifs tg1 it1 ifs1 own) env S = (itV true (fun e S => evE T n e env S) it S).bind fun its =>
        (compLL (step2V (fun e env S => evE T n e env S) elt tg ifs tg1 it1 ifs1 (wipeE env (own.map (·.2)))) its.1 its.2).bind fun r => if r.1.length ≤ LIM then some (.lst r.1, r.2) else none := rfl
theorem l_nil {ev : CE → Strm → Option (PV × Strm)} : evL ev [] S = some ([], S) := rfl
theorem l_cons {ev : CE → Strm → Option (PV × Strm)} {e : CE} {es : List CE} : evL ev (e :: es) S = (ev e S).bind fun r => (evL ev es r.2).map fun q => (r.1 :: q.1, q.2) := rfl
/- statements -/
theorem s_nil {ev : CS → Env → Strm → Option (Fl × Strm)} : seqL ev [] env S = some (.nx env, S) := rfl
/-- the rest of a block, kept shut until the names' values are known -/
def thenL (ev : CS → Env → Strm → Option (Fl × Strm)) (cs : List CS) (r : Fl × Strm) : Option (Fl × Strm) :=
  match r.1 with
  | .nx env => seqL ev cs env r.2
  | .rt x => some (.rt x, r.2)
theorem s_cons {ev : CS → Env → Strm → Option (Fl × Strm)} {c : CS} {cs : List CS} : seqL ev (c :: cs) env S = (ev c env S).bind (thenL ev cs) := rfl
theorem then_nx {ev : CS → Env → Strm → Option (Fl × Strm)} {cs : List CS} : thenL ev cs (.nx env, S) = seqL ev cs env S := rfl
theorem then_rt {ev : CS → Env → Strm → Option (Fl × Strm)} {cs : List CS} {x : PV} : thenL ev cs (.rt x, S) = some (.rt x, S) := rfl
/-- a turn of a for, kept shut -/
def bodyF (T : Tbl) (n : Nat) (t : Tg) (b : List CS) (x : PV) (env : Env) (S : Strm) : Option (Fl × Strm) := (bindT t x env).bind fun e1 => seqL (fun c env S => evS T n c env S) b e1 S
def turnF (T : Tbl) (n : Nat) (t : Tg) (b : List CS) (env : Env) (r : List PV × Strm) : Option (Fl × Strm) := forL (bodyF T n t b) r.1 env r.2
theorem turn_eq {t : Tg} {b : List CS} {xs : List PV} : turnF T n t b env (xs, S) = forL (bodyF T n t b) xs env S := rfl
/-- the two ways of an if, kept shut -/
def ifeF (T : Tbl) (n : Nat) (a b : List CS) (env : Env) (S : Strm) (x : Bool) : Option (Fl × Strm) := if x then seqL (fun c env S => evS T n c env S) a env S else seqL (fun c env S => evS T n c env S) b env S
theorem ife_t {a b : List CS} : ifeF T n a b env S true = seqL (fun c env S => evS T n c env S) a env S := rfl
theorem ife_f {a b : List CS} : ifeF T n a b env S false = seqL (fun c env S => evS T n c env S) b env S := rfl
def ifeG (T : Tbl) (n : Nat) (a b : List CS) (env : Env) (r : PV × Strm) : Option (Fl × Strm) := r.1.tru.bind (ifeF T n a b env r.2)
theorem ifeG_eq {a b : List CS} {x : PV} : ifeG T n a b env (x, S) = x.tru.bind (ifeF T n a b env S) := rfl
theorem c_asg {t : Tg} {e : CE} : evS T (n + 1) (.asg t e) env S = (evE T FU e env S).bind fun r => (bindT t r.1 env).map fun env' => (.nx env', r.2) := rfl
theorem c_ret {e : CE} : evS T (n + 1) (.ret e) env S = (evE T FU e env S).bind fun r => if r.1.isOwn then none else some (.rt r.1, r.2) := rfl
theorem c_retO {i : Nat} : evS T (n + 1) (.retO i) env S = (ownAt env i).map fun l => (.rt (.lst l), S) := rfl
theorem c_exp {e : CE} : evS T (n + 1) (.exp e) env S = (evE T FU e env S).map fun r => (.nx env, r.2) := rfl
theorem c_ife {d : CE} {a b : List CS} : evS T (n + 1) (.ife d a b) env S = (evE T FU d env S).bind (ifeG T n a b env) := rfl
theorem c_for {t : Tg} {it : CI} {b : List CS} : evS T (n + 1) (.for_ t it b) env S = (itV false (fun e S => evE T FU e env S) it S).bind (turnF T n t b env) := rfl
def asgOV (i : Nat) (env : Env) (S : Strm) (r : PV × Strm) : Option (Fl × Strm) :=
  match r.1 with
  | .lst l => if i < env.length && (S.isSome || r.2.isNone) then some (.nx (env.set i (some (.own l))), r.2) else none
  | _ => none
theorem c_asgO {i : Nat} {e : CE} : evS T (n + 1) (.asgO i e) env S = if isFresh e then (evE T FU e env S).bind (asgOV i env S) else none := rfl
theorem c_par {i j : Nat} {x y : CE} : evS T (n + 1) (.par i j x y) env S = (evE T FU x env S).bind fun r => (evE T FU y env r.2).bind fun q => if r.1.isOwn || q.1.isOwn then none else some (.nx ((env.set i (some r.1)).set j (some q.1)), q.2) := rfl
def popV (T : Tbl) (w : List Bi) (i : Nat) (e : CE) (tg : Nat) (vs : List Nat) (t : Option Nat) (env : Env) (its : List PV × Strm) : Option (Fl × Strm) :=
  (ownAt env i).bind fun l => if decide (its.1.length ≤ LIM) then
        (popL (popS (fun e env S => evE T FU e env S) e tg i vs env) its.1 l its.2).bind fun q => (wrapV w (.lst q.1.1)).bind fun x => if x.isOwn then none else
          match t with
          | some j => some (.nx ((env.set i (some (.own q.1.2))).set j (some x)), q.2)
          | none => some (.rt x, q.2)
        else none
theorem c_pop {w : List Bi} {i : Nat} {e : CE} {tg : Nat} {it : CI} {own : List (Str × Nat)} {t : Option Nat} : evS T (n + 1) (.pop t w i e tg it own) env S = (itV false (fun e S => evE T FU e env S) it S).bind (popV T w i e tg (own.map (·.2)) t env) := rfl
theorem e_gcd {a b : CE} : evE T (n + 1) (.gcd a b) env S = (evE T n a env S).bind fun r => (evE T n b env r.2).bind fun q => gcdV r q := rfl
theorem e_cat {t : Bool} {a : CE} {l : List CE} : evE T (n + 1) (.cat t a l) env S = (evE T n a env S).bind fun r => (evL (fun e S => evE T n e env S) l r.2).bind fun q => catQ t r.1 q := rfl
theorem e_nsc {elt : CE} {tg : Tg} {it : CI} {tg1 : Tg} {it1 : CI} {own : List (Str × Nat)} : evE T (n + 1) (.nsc elt tg it tg1 it1 own) env S = (itV true (fun e S => evE T n e env S) it S).bind fun its =>
        (compLL (step2V (fun e env S => evE T n e env S) elt tg none tg1 it1 none (wipeE env (own.map (·.2)))) its.1 its.2).bind nscV := rfl
def popxV (i : Nat) (env : Env) (l : List PV) (r : PV × Strm) : Option (Fl × Strm) :=
  match r.1 with
  | .int j => if inR j then (ixN l.length j).map fun m => (.nx (env.set i (some (.own (l.eraseIdx m)))), r.2) else none
  | _ => none
theorem c_popx {i : Nat} {e : CE} : evS T (n + 1) (.popx i e) env S = (evE T FU e env S).bind fun r => (ownAt env i).bind fun l => popxV i env l r := rfl
theorem e_sset {a : CE} : evE T (n + 1) (.sset a) env S = (evE T n a env S).bind stuV := rfl
theorem gcdV_int {i j : Int} {S S' : Strm} : gcdV (.int i, S) (.int j, S') = some (.int ((Nat.gcd i.natAbs j.natAbs : Nat) : Int), S') := rfl
theorem c_app {i : Nat} {e : CE} : evS T (n + 1) (.app i e) env S = (evE T FU e env S).bind fun r => (ownAt env i).bind fun l => if r.1.isOwn || !decide (l.length < LIM) then none else some (.nx (env.set i (some (.own (l ++ [r.1])))), r.2) := rfl
def ssetV (i : Nat) (j : Int) (env : Env) (r : PV × Strm) : Option (Fl × Strm) :=
  match env[i]?, r.1, r.2 with
  | some (some .stm), .int z, some (scr, c, k) => if j = 1 then some (.nx env, some (scr, z, k)) else if j = 2 then some (.nx env, some (scr, c, z)) else none
  | _, _, _ => none
theorem c_sset {i : Nat} {j : Int} {e : CE} : evS T (n + 1) (.sset i j e) env S = (evE T FU e env S).bind (ssetV i j env) := rfl
end
end Ws

/-! Ws19: the words that work a text out; walks without effect. -/
namespace Ws
open PySem PySem.Spec L2

theorem g0 {α : Type} {a : α} {l : List α} : (a :: l)[0]? = some a := rfl
theorem gS {α : Type} {a : α} {l : List α} {n : Nat} : (a :: l)[n + 1]? = l[n]? := rfl
theorem st0 {α : Type} {a b : α} {l : List α} : (a :: l).set 0 b = b :: l := rfl
theorem stS {α : Type} {a b : α} {l : List α} {n : Nat} : (a :: l).set (n + 1) b = a :: l.set n b := rfl
theorem thaw_tup {l : List PV} : (PV.tup l).thaw = .tup l := rfl
theorem thaw_lst {l : List PV} : (PV.lst l).thaw = .lst l := rfl
theorem thaw_own {l : List PV} : (PV.own l).thaw = .lst l := rfl
theorem thaw_int {l : Int} : (PV.int l).thaw = .int l := rfl
theorem thaw_bl {l : Bool} : (PV.bl l).thaw = .bl l := rfl
theorem thaw_str {l : Str} : (PV.str l).thaw = .str l := rfl
theorem thaw_non : PV.non.thaw = .non := rfl
theorem thaw_stm : PV.stm.thaw = .stm := rfl
theorem thaw_of {x : PV} (h : x.isOwn = false) : x.thaw = x := by cases x <;> first | rfl | (simp [PV.isOwn] at h)
theorem own_tup {l : List PV} : (PV.tup l).isOwn = false := rfl
theorem own_lst {l : List PV} : (PV.lst l).isOwn = false := rfl
theorem own_own {l : List PV} : (PV.own l).isOwn = true := rfl
theorem own_int {l : Int} : (PV.int l).isOwn = false := rfl
theorem own_bl {l : Bool} : (PV.bl l).isOwn = false := rfl
theorem own_str {l : Str} : (PV.str l).isOwn = false := rfl
theorem own_non : PV.non.isOwn = false := rfl
theorem own_ty {n : String} : (PV.ty n).isOwn = false := rfl
theorem own_stm : PV.stm.isOwn = false := rfl
theorem tru_bl {b : Bool} : (PV.bl b).tru = some b := rfl
theorem tru_int {b : Int} : (PV.int b).tru = some (b != 0) := rfl
theorem seq_tup {l : List PV} : (PV.tup l).seq? = some l := rfl
theorem seq_lst {l : List PV} : (PV.lst l).seq? = some l := rfl
theorem seq_own {l : List PV} : (PV.own l).seq? = some l := rfl
theorem lst_lst {l : List PV} : (PV.lst l).lst? = some l := rfl
theorem lst_own {l : List PV} : (PV.own l).lst? = some l := rfl
/- operations -/
theorem add_int {i j : Int} : binV .add (.int i) (.int j) = some (.int (i + j)) := rfl
theorem sub_int {i j : Int} : binV .sub (.int i) (.int j) = some (.int (i - j)) := rfl
theorem mul_int {i j : Int} : binV .mul (.int i) (.int j) = if sml i || sml j then some (.int (i * j)) else none := rfl
theorem mod_int {i j : Int} : binV .mod (.int i) (.int j) = if decide (0 < j) then some (.int (i % j)) else none := rfl
theorem fdiv_int {i j : Int} : binV .fdiv (.int i) (.int j) = if decide (0 < j) && decide (j < 1073741824) then some (.int (i / j)) else none := rfl
theorem add_tup {a b : List PV} : binV .add (.tup a) (.tup b) = if a.length + b.length ≤ LIM then some (.tup (a ++ b)) else none := rfl
theorem add_lst {a b : List PV} : binV .add (.lst a) (.lst b) = if a.length + b.length ≤ LIM then some (.lst (a ++ b)) else none := rfl
theorem eq_int {i j : Int} : cmpV .eq (.int i) (.int j) = some (decide (i = j)) := rfl
theorem ne_int {i j : Int} : cmpV .ne (.int i) (.int j) = some (!decide (i = j)) := rfl
theorem lt_int' {i j : Int} : cmpV .lt (.int i) (.int j) = some (decide (i < j)) := rfl
theorem le_int' {i j : Int} : cmpV .le (.int i) (.int j) = some (decide (i ≤ j)) := rfl
theorem gt_int' {i j : Int} : cmpV .gt (.int i) (.int j) = some (decide (j < i)) := rfl
theorem ge_int' {i j : Int} : cmpV .ge (.int i) (.int j) = some (decide (j ≤ i)) := rfl
theorem isN_non : cmpV .isN .non .non = some true := rfl
theorem ne_bl {a b : Bool} : cmpV .ne (.bl a) (.bl b) = some (a != b) := by cases a <;> cases b <;> decide
theorem eq_bl {a b : Bool} : cmpV .eq (.bl a) (.bl b) = some (a == b) := by cases a <;> cases b <;> decide
theorem idx_tup {l : List PV} {i : Int} {S : Strm} : idxS S (.tup l) (.int i) = atI l i := rfl
theorem idx_lst {l : List PV} {i : Int} {S : Strm} : idxS S (.lst l) (.int i) = atI l i := rfl
theorem idx_own {l : List PV} {i : Int} {S : Strm} : idxS S (.own l) (.int i) = atI l i := rfl
theorem len_1 {x : PV} : biV .len [x] = x.seq?.map fun l => .int l.length := rfl
theorem all_1 {x : PV} : biV .all [x] = (x.lst?.bind bls?).map fun l => .bl (l.all id) := rfl
theorem any_1 {x : PV} : biV .any [x] = (x.lst?.bind bls?).map fun l => .bl (l.any id) := rfl
theorem sum_1 {x : PV} : biV .sum [x] = (x.lst?.bind ints?).map fun l => .int l.sum := rfl
theorem tuple_1 {x : PV} : biV .tuple [x] = x.seq?.map .tup := rfl
theorem list_1 {x : PV} : biV .list [x] = x.seq?.map .lst := rfl
theorem sorted_1 {x : PV} : biV .sorted [x] = (x.seq?.bind srtV).map .lst := rfl
theorem int_1 {i : Int} : biV .int [.int i] = some (.int i) := rfl
theorem abs_1 {i : Int} : biV .abs [.int i] = some (.int (if i < 0 then -i else i)) := rfl
theorem type_1 {x : PV} : biV .type [x] = (tyName x).map .ty := rfl
theorem isi_2 {x : PV} {n : String} : biV .isi [x, .ty n] = (tyName x).bind fun m => (kitB m n).map .bl := rfl
theorem bind_nm {i : Nat} {x : PV} {env : Env} : bindT (.nm i) x env = if x.isOwn then none else some (env.set i (some x)) := rfl
theorem bind_tp {l : List Nat} {xs : List PV} {env : Env} : bindT (.tp l) (.tup xs) env = if xs.length = l.length then some ((l.zip xs).foldl (fun e p => e.set p.1 (some p.2)) env) else none := rfl
theorem bind_ns {l : List Nat} {j : Nat} {xs : List PV} {y : PV} {env : Env} : bindT (.ns l j) (.tup [.tup xs, y]) env = if xs.length = l.length then some (((l.zip xs).foldl (fun e p => e.set p.1 (some p.2)) env).set j (some y)) else none := rfl
theorem bind_tpl {l : List Nat} {xs : List PV} {env : Env} : bindT (.tp l) (.lst xs) env = if xs.length = l.length then some ((l.zip xs).foldl (fun e p => e.set p.1 (some p.2)) env) else none := rfl
theorem min1_1 {x : PV} : biV .min1 [x] = ((x.lst?.bind ints?).bind minL).map .int := rfl
theorem max1_1 {x : PV} : biV .max1 [x] = ((x.lst?.bind ints?).bind maxL).map .int := rfl
theorem mind_1 {x : PV} : biV .mind [x] = x.lst?.bind mnV := rfl
theorem min2_1 {i j : Int} : biV .min2 [.int i, .int j] = some (.int (if j < i then j else i)) := rfl
theorem max2_1 {i j : Int} : biV .max2 [.int i, .int j] = some (.int (if j > i then j else i)) := rfl
def enumB (ok : Bool) (r : PV × Strm) : Option (List PV × Strm) := if ok || !r.1.isOwn then r.1.lst?.map fun l => (enumV l, r.2) else none
theorem it_enum {ok : Bool} {ev : CE → Strm → Option (PV × Strm)} {e : CE} {S : Strm} : itV ok ev (.enum e) S = (ev e S).bind (enumB ok) := rfl
theorem enumB_lst {ok : Bool} {l : List PV} {S : Strm} : enumB ok (.lst l, S) = some (enumV l, S) := by cases ok <;> rfl
theorem it_seq {ok : Bool} {ev : CE → Strm → Option (PV × Strm)} {e : CE} {S : Strm} : itV ok ev (.seq e) S = (ev e S).bind fun r => if ok || !r.1.isOwn then r.1.seq?.map fun l => (l, r.2) else none := rfl
def rngA (r : PV × Strm) : Option (List PV × Strm) :=
  match r.1 with
  | .int j => if inR j then some (rangeV 0 j, r.2) else none
  | _ => none
def rngB (r q : PV × Strm) : Option (List PV × Strm) :=
  match r.1, q.1 with
  | .int i, .int j => if inR i && inR j then some (rangeV i j, q.2) else none
  | _, _ => none
theorem it_rng1 {ok : Bool} {ev : CE → Strm → Option (PV × Strm)} {e : CE} {S : Strm} : itV ok ev (.rng1 e) S = (ev e S).bind rngA := rfl
theorem it_rng2 {ok : Bool} {ev : CE → Strm → Option (PV × Strm)} {a b : CE} {S : Strm} : itV ok ev (.rng2 a b) S = (ev a S).bind fun r => (ev b r.2).bind fun q => rngB r q := rfl
theorem rngA_int {j : Int} {S : Strm} : rngA (.int j, S) = if inR j then some (rangeV 0 j, S) else none := rfl
theorem rngB_int {i j : Int} {S S' : Strm} : rngB (.int i, S) (.int j, S') = if inR i && inR j then some (rangeV i j, S') else none := rfl
def zipB (ok : Bool) (r q : PV × Strm) : Option (List PV × Strm) :=
  match r.1, q.1 with
  | .tup x, .tup y => some (zipV x y, q.2)
  | x, y => if ok || !(x.isOwn || y.isOwn) then (match x.lst?, y.lst? with | some x, some y => some (zipV x y, q.2) | _, _ => none) else none
theorem it_zip {ok : Bool} {ev : CE → Strm → Option (PV × Strm)} {a b : CE} {S : Strm} : itV ok ev (.zip a b) S = (ev a S).bind fun r => (ev b r.2).bind fun q => zipB ok r q := rfl
theorem zip_tup {ok : Bool} {x y : List PV} {S S' : Strm} : zipB ok (.tup x, S) (.tup y, S') = some (zipV x y, S') := rfl
theorem zip_lst {ok : Bool} {x y : List PV} {S S' : Strm} : zipB ok (.lst x, S) (.lst y, S') = some (zipV x y, S') := by cases ok <;> rfl
theorem par_none {ev : CE → Strm → Option (PV × Strm)} {S : Strm} : parV ev none S = some (none, S) := rfl
def parB (q : PV × Strm) : Option (Option Int × Strm) :=
  match q.1 with
  | .int i => some (some i, q.2)
  | _ => none
theorem par_some {ev : CE → Strm → Option (PV × Strm)} {e : CE} {S : Strm} : parV ev (some e) S = (ev e S).bind parB := rfl
theorem parB_int {i : Int} {S : Strm} : parB (.int i, S) = some (some i, S) := rfl
theorem sli_tup {l : List PV} {lo hi : Option Int} : sliV (.tup l) lo hi = some (.tup (cutP l lo hi)) := rfl
theorem sli_lst {l : List PV} {lo hi : Option Int} : sliV (.lst l) lo hi = some (.lst (cutP l lo hi)) := rfl
theorem step_none {ev : CE → Env → Strm → Option (PV × Strm)} {elt : CE} {tg : Tg} {env : Env} {x : PV} {S : Strm} : stepV ev elt tg none env x S = (bindT tg x env).bind fun e1 => (ev elt e1 S).bind fun r => if r.1.isOwn then none else some (some r.1, r.2) := rfl
theorem step_some {ev : CE → Env → Strm → Option (PV × Strm)} {elt d : CE} {tg : Tg} {env : Env} {x : PV} {S : Strm} : stepV ev elt tg (some d) env x S = (bindT tg x env).bind fun e1 => ((ev d e1 S).bind fun r => r.1.tru.map fun b => (b, r.2)).bind fun k =>
      if k.1 then (ev elt e1 k.2).bind fun r => if r.1.isOwn then none else some (some r.1, r.2) else some (none, k.2) := rfl
theorem wipe_nil {env : Env} : wipeE env [] = env := rfl
theorem wipe_cons {env : Env} {v : Nat} {vs : List Nat} : wipeE env (v :: vs) = (wipeE env vs).set v none := rfl
theorem compL_map {α : Type} {step : PV → Strm → Option (Option PV × Strm)} {S : Strm} {f : α → PV} {g : α → Option PV} {xs : List α} (h : ∀ x ∈ xs, step (f x) S = some (g x, S)) : compL step (xs.map f) S = some (xs.filterMap g, S) := by
  induction xs with
  | nil => rfl
  | cons x xs ih =>
    have ih := ih fun y hy => h y (List.mem_cons_of_mem _ hy)
    rw [List.map_cons, compL, h x List.mem_cons_self, Option.bind_some, ih, Option.map_some]
    cases e : g x with
    | none => rw [List.filterMap_cons_none e]
    | some y => rw [List.filterMap_cons_some e]
theorem ints_map : ∀ (l : List Int), ints? (l.map PV.int) = some l
  | [] => rfl
  | x :: xs => by rw [List.map_cons, ints?, ints_map xs]; rfl
theorem bls_map : ∀ (l : List Bool), bls? (l.map PV.bl) = some l
  | [] => rfl
  | x :: xs => by rw [List.map_cons, bls?, bls_map xs]; rfl
def endV (r : Fl × Strm) : Out × Strm :=
  match r.1 with
  | .nx _ => (.ret .non, r.2)
  | .rt x => (.ret x, r.2)
theorem evF_end {T : Tbl} {n : Nat} {b : List CS} {xs : List PV} {S : Strm} : evF T n b xs S = (seqL (fun c env S => evS T FU c env S) b (xs.map some ++ List.replicate (n - xs.length) none) S).map endV := rfl
theorem end_nx {env : Env} {S : Strm} : endV (.nx env, S) = (.ret .non, S) := rfl
theorem end_rt {x : PV} {S : Strm} : endV (.rt x, S) = (.ret x, S) := rfl
theorem body_eq {T : Tbl} {n : Nat} {t : Tg} {b : List CS} {x : PV} {env : Env} {S : Strm} : bodyF T n t b x env S = (bindT t x env).bind fun e1 => seqL (fun c env S => evS T n c env S) b e1 S := rfl
theorem len_nil {α : Type} : ([] : List α).length = 0 := rfl


end Ws

/-! WsP: the defs of the program and of the laws, in short. -/
namespace Ws.P
open PySem PySem.Spec PyProof.Rows L2 Ws
abbrev N_is_within : List Str := ["value", "least", "most"]
def c_is_within : List CS := [
  .ret (.and (.cmp .eq (.bi .type [(.var 0)]) (.ty "int")) (.chain .le .le (.var 1) (.var 0) (.var 2)))]
abbrev N_is_tuple : List Str := ["value", "least", "most"]
def c_is_tuple : List CS := [
  .ret (.and (.cmp .eq (.bi .type [(.var 0)]) (.ty "tuple")) (.chain .le .le (.var 1) (.bi .len [(.var 0)]) (.var 2)))]
abbrev N_is_ascending : List Str := ["items", "low", "high"]
def c_is_ascending : List CS := [
  .ret (.bi .all [(.comp (.cmp .lt (.var 1) (.var 2)) (.tp [1, 2]) (.zip (.var 0) (.sli (.var 0) (some (.int 1)) none)) none [("low", 1), ("high", 2)])])]
abbrev N_is_pair : List Str := ["value", "points", "one", "other"]
def c_is_pair : List CS := [
  .ife (.not (.call "is_tuple" [(.var 0), (.int 2), (.int 2)])) [.ret (.bl false)] [],
  .asg (.tp [2, 3]) (.var 0),
  .ret (.and (.call "is_within" [(.var 2), (.int 0), (.bin .sub (.var 1) (.int 1))]) (.call "is_within" [(.var 3), (.bin .add (.var 2) (.int 1)), (.bin .sub (.var 1) (.int 1))]))]
abbrev N__law_next : List Str := ["stream", "many", "k", "cell", "digit"]
def c__law_next : List CS := [
  .ife (.cmp .eq (.idx (.var 0) (.int 1)) (.int 0)) [.asg (.nm 2) (.idx (.var 0) (.int 2)), .asg (.nm 3) (.bin .add (.int 7) (.var 2)), .ife (.cmp .lt (.var 2) (.bi .len [(.idx (.var 0) (.int 0))])) [.asg (.nm 3) (.bi .abs [(.idx (.idx (.var 0) (.int 0)) (.var 2))])] [], .ife (.cmp .lt (.var 3) (.bin .pow (.int 10) (.int 18))) [.asg (.nm 3) (.bin .mod (.bi .int [(.bin .add (.bin .add (.bin .mul (.var 3) (.int 48271)) (.bin .mul (.var 2) (.int 69621))) (.int 11))]) (.int 2147483647)), .asg (.nm 3) (.bin .add (.bin .mul (.bin .mod (.bi .int [(.bin .add (.bin .mul (.var 3) (.int 16807)) (.int 13))]) (.int 2147483647)) (.int 65537)) (.var 3))] [], .sset 0 1 (.var 3), .sset 0 2 (.bin .add (.var 2) (.int 1))] [],
  .asg (.nm 4) (.bin .mod (.bi .int [(.idx (.var 0) (.int 1))]) (.var 1)),
  .sset 0 1 (.bin .fdiv (.idx (.var 0) (.int 1)) (.var 1)),
  .ret (.var 4)]
abbrev N__law_is_integer : List Str := ["actual"]
def c__law_is_integer : List CS := [
  .ret (.and (.bi .isi [(.var 0), (.ty "int")]) (.not (.bi .isi [(.var 0), (.ty "bool")])))]
abbrev N__law_equal : List Str := ["actual", "due", "at"]
def c__law_equal : List CS := [
  .ife (.cmp .isN (.var 1) .non) [.ret (.cmp .isN (.var 0) .non)] [],
  .ife (.bi .isi [(.var 1), (.ty "bool")]) [.ret (.and (.bi .isi [(.var 0), (.ty "bool")]) (.cmp .eq (.var 0) (.var 1)))] [],
  .ife (.bi .isi [(.var 1), (.ty "int")]) [.ret (.and (.call "_law_is_integer" [(.var 0)]) (.cmp .eq (.var 0) (.var 1)))] [],
  .ife (.bi .isi [(.var 1), (.ty "str")]) [.ret (.and (.bi .isi [(.var 0), (.ty "str")]) (.cmp .eq (.var 0) (.var 1)))] [],
  .ife (.and (.bi .isi [(.var 1), (.ty "tuple")]) (.not (.bi .isi [(.var 0), (.ty "tuple")]))) [.ret (.bl false)] [],
  .ife (.and (.bi .isi [(.var 1), (.ty "list")]) (.not (.bi .isi [(.var 0), (.ty "list")]))) [.ret (.bl false)] [],
  .ife (.cmp .ne (.bi .len [(.var 0)]) (.bi .len [(.var 1)])) [.ret (.bl false)] [],
  .ret (.bi .all [(.comp (.call "_law_equal" [(.idx (.var 0) (.var 2)), (.idx (.var 1) (.var 2))]) (.nm 2) (.rng1 (.bi .len [(.var 1)])) none [("at", 2)])])]
abbrev N__law_shuffled : List Str := ["stream", "many", "left", "k"]
def c__law_shuffled : List CS := [
  .asgO 2 (.rg1 false (.var 1)),
  .pop none [.tuple] 2 (.call "_law_next" [(.var 0), (.bi .len [(.var 2)])]) 3 (.rng1 (.var 1)) [("k", 3)]]
end Ws.P

/-! Ws20: what the forms of nets, wishes, fences are worth. -/
namespace Ws
open PySem PySem.Spec L2

/- plain values -/
mutual
def PV.pl : PV → Bool
  | .non => true | .bl _ => true | .int _ => true | .str _ => true
  | .tup l => PV.pls l
  | .lst l => PV.pls l
  | _ => false
def PV.pls : List PV → Bool
  | [] => true
  | x :: xs => PV.pl x && PV.pls xs
end
theorem pl_own {x : PV} (h : x.pl = true) : x.isOwn = false := by cases x <;> first | rfl | (simp [PV.pl] at h)
theorem pl_thaw {x : PV} (h : x.pl = true) : x.thaw = x := thaw_of (pl_own h)
theorem pls_all : ∀ {l : List PV}, PV.pls l = true → ∀ x ∈ l, x.pl = true
  | [], _, x, h => by simp at h
  | y :: l, h, x, m => by
    simp only [PV.pls, Bool.and_eq_true] at h
    rcases List.mem_cons.mp m with e | m
    · rw [e]; exact h.1
    · exact pls_all h.2 x m
theorem pl_tup {l : List PV} : (PV.tup l).pl = PV.pls l := by simp [PV.pl]
theorem pl_int {i : Int} : (PV.int i).pl = true := by simp [PV.pl]
theorem kn_int : knownTy "int" = true := by decide +kernel
theorem kn_tuple : knownTy "tuple" = true := by decide +kernel
theorem ty_eq {n m : String} (h : knownTy n = true) (h' : knownTy m = true) : cmpV .eq (.ty n) (.ty m) = some (n == m) := by
  show (if knownTy n && knownTy m then some (n == m) else none) = _
  rw [h, h']; rfl
theorem ty_not {x : PV} {n m : String} (h : tyName x = some n) (hm : knownTy m = true) : (cmpV .eq (.ty n) (.ty m)) = some (n == m) := ty_eq (by cases x <;> simp only [tyName, Option.some.injEq, reduceCtorEq] at h <;> subst h <;> decide +kernel) hm
theorem sb_ii : ("int" == "int") = true := by decide +kernel
theorem sb_tt : ("tuple" == "tuple") = true := by decide +kernel

/-! ### is_within, is_tuple -/
def isW (x : PV) (l m : Int) : Bool := match x with | .int i => decide (l ≤ i) && decide (i ≤ m) | _ => false
def isT (x : PV) (l m : Int) : Bool := match x with | .tup xs => decide (l ≤ (xs.length : Int)) && decide ((xs.length : Int) ≤ m) | _ => false
def WithinOk (φ : Fn) : Prop := ∀ x l m S, x.pl = true → φ [x, .int l, .int m] S = some (.ret (.bl (isW x l m)), S)
def IsTupOk (φ : Fn) : Prop := ∀ x l m S, x.pl = true → φ [x, .int l, .int m] S = some (.ret (.bl (isT x l m)), S)
theorem within_ok {T : Tbl} : WithinOk (evF T 3 P.c_is_within) := by
  intro x l m S h
  unfold P.c_is_within
  cases x with
  | int i => simp only [evF_end, end_nx, end_rt, FU, e_non, e_bl, e_int, e_str, e_ty, e_var, getV_some, e_glo, e_tup, e_lst, e_bin, e_neg, negV_int, e_not, e_and, e_or, andV_bl, orV_bl, and_pure, or_pure, e_cmp, e_chain, e_ite, e_idx, e_sli, e_gcd, e_sset, gcdV_int, e_call, callR_ret, e_bi, e_comp, l_nil, l_cons, s_nil, s_cons, then_nx, then_rt, turn_eq, ife_t, ife_f, ifeG_eq, c_asg, c_ret, c_retO, c_exp, c_ife, c_for, c_asgO, c_app, c_sset, g0, gS, st0, stS, thaw_tup, thaw_lst, thaw_own, thaw_int, thaw_bl, thaw_str, thaw_non, thaw_stm, own_tup, own_lst, own_own, own_int, own_bl, own_str, own_non, own_ty, own_stm, tru_bl, tru_int, seq_tup, seq_lst, seq_own, lst_lst, lst_own, add_int, sub_int, eq_int, ne_int, lt_int', le_int', gt_int', ge_int', ne_bl, eq_bl, idx_tup, idx_lst, idx_own, len_1, all_1, any_1, sum_1, tuple_1, list_1, sorted_1, int_1, abs_1, type_1, bind_nm, bind_tp, bind_ns, bind_tpl, min1_1, max1_1, mind_1, min2_1, max2_1, it_enum, enumB_lst, c_par, it_seq, it_rng1, it_rng2, rngA_int, rngB_int, it_zip, zip_tup, zip_lst, par_none, par_some, parB_int, sli_tup, sli_lst, step_none, step_some, wipe_nil, wipe_cons, List.map_cons, List.map_nil, List.length_cons, len_nil, List.all_cons, List.all_nil, List.replicate, List.cons_append, List.nil_append, List.append_nil, List.zip_cons_cons, List.zip_nil_right, List.foldl_cons, List.foldl_nil, eq_self, Option.bind_some, Option.map_some, Bool.not_false, Bool.not_true, Bool.true_and, Bool.and_true, Bool.false_and, Bool.and_false, Bool.or_true, Bool.true_or, Bool.or_false, Bool.false_or, if_true, Bool.false_eq_true, if_false, Nat.sub_self, Nat.reduceAdd, Nat.reduceSub, Nat.reduceEqDiff, ite_true, ite_false, Nat.reduceLeDiff, tyName, ty_eq kn_int kn_int, sb_ii]; rfl
  | non => simp only [evF_end, end_nx, end_rt, FU, e_non, e_bl, e_int, e_str, e_ty, e_var, getV_some, e_glo, e_tup, e_lst, e_bin, e_neg, negV_int, e_not, e_and, e_or, andV_bl, orV_bl, and_pure, or_pure, e_cmp, e_chain, e_ite, e_idx, e_sli, e_gcd, e_sset, gcdV_int, e_call, callR_ret, e_bi, e_comp, l_nil, l_cons, s_nil, s_cons, then_nx, then_rt, turn_eq, ife_t, ife_f, ifeG_eq, c_asg, c_ret, c_retO, c_exp, c_ife, c_for, c_asgO, c_app, c_sset, g0, gS, st0, stS, thaw_tup, thaw_lst, thaw_own, thaw_int, thaw_bl, thaw_str, thaw_non, thaw_stm, own_tup, own_lst, own_own, own_int, own_bl, own_str, own_non, own_ty, own_stm, tru_bl, tru_int, seq_tup, seq_lst, seq_own, lst_lst, lst_own, add_int, sub_int, eq_int, ne_int, lt_int', le_int', gt_int', ge_int', ne_bl, eq_bl, idx_tup, idx_lst, idx_own, len_1, all_1, any_1, sum_1, tuple_1, list_1, sorted_1, int_1, abs_1, type_1, bind_nm, bind_tp, bind_ns, bind_tpl, min1_1, max1_1, mind_1, min2_1, max2_1, it_enum, enumB_lst, c_par, it_seq, it_rng1, it_rng2, rngA_int, rngB_int, it_zip, zip_tup, zip_lst, par_none, par_some, parB_int, sli_tup, sli_lst, step_none, step_some, wipe_nil, wipe_cons, List.map_cons, List.map_nil, List.length_cons, len_nil, List.all_cons, List.all_nil, List.replicate, List.cons_append, List.nil_append, List.append_nil, List.zip_cons_cons, List.zip_nil_right, List.foldl_cons, List.foldl_nil, eq_self, Option.bind_some, Option.map_some, Bool.not_false, Bool.not_true, Bool.true_and, Bool.and_true, Bool.false_and, Bool.and_false, Bool.or_true, Bool.true_or, Bool.or_false, Bool.false_or, if_true, Bool.false_eq_true, if_false, Nat.sub_self, Nat.reduceAdd, Nat.reduceSub, Nat.reduceEqDiff, ite_true, ite_false, Nat.reduceLeDiff, tyName, ty_not (x := .non) rfl kn_int, show ("NoneType" == "int") = false by decide +kernel]; rfl
  | bl b => simp only [evF_end, end_nx, end_rt, FU, e_non, e_bl, e_int, e_str, e_ty, e_var, getV_some, e_glo, e_tup, e_lst, e_bin, e_neg, negV_int, e_not, e_and, e_or, andV_bl, orV_bl, and_pure, or_pure, e_cmp, e_chain, e_ite, e_idx, e_sli, e_gcd, e_sset, gcdV_int, e_call, callR_ret, e_bi, e_comp, l_nil, l_cons, s_nil, s_cons, then_nx, then_rt, turn_eq, ife_t, ife_f, ifeG_eq, c_asg, c_ret, c_retO, c_exp, c_ife, c_for, c_asgO, c_app, c_sset, g0, gS, st0, stS, thaw_tup, thaw_lst, thaw_own, thaw_int, thaw_bl, thaw_str, thaw_non, thaw_stm, own_tup, own_lst, own_own, own_int, own_bl, own_str, own_non, own_ty, own_stm, tru_bl, tru_int, seq_tup, seq_lst, seq_own, lst_lst, lst_own, add_int, sub_int, eq_int, ne_int, lt_int', le_int', gt_int', ge_int', ne_bl, eq_bl, idx_tup, idx_lst, idx_own, len_1, all_1, any_1, sum_1, tuple_1, list_1, sorted_1, int_1, abs_1, type_1, bind_nm, bind_tp, bind_ns, bind_tpl, min1_1, max1_1, mind_1, min2_1, max2_1, it_enum, enumB_lst, c_par, it_seq, it_rng1, it_rng2, rngA_int, rngB_int, it_zip, zip_tup, zip_lst, par_none, par_some, parB_int, sli_tup, sli_lst, step_none, step_some, wipe_nil, wipe_cons, List.map_cons, List.map_nil, List.length_cons, len_nil, List.all_cons, List.all_nil, List.replicate, List.cons_append, List.nil_append, List.append_nil, List.zip_cons_cons, List.zip_nil_right, List.foldl_cons, List.foldl_nil, eq_self, Option.bind_some, Option.map_some, Bool.not_false, Bool.not_true, Bool.true_and, Bool.and_true, Bool.false_and, Bool.and_false, Bool.or_true, Bool.true_or, Bool.or_false, Bool.false_or, if_true, Bool.false_eq_true, if_false, Nat.sub_self, Nat.reduceAdd, Nat.reduceSub, Nat.reduceEqDiff, ite_true, ite_false, Nat.reduceLeDiff, tyName, ty_not (x := .bl b) rfl kn_int, show ("bool" == "int") = false by decide +kernel]; rfl
  | str b => simp only [evF_end, end_nx, end_rt, FU, e_non, e_bl, e_int, e_str, e_ty, e_var, getV_some, e_glo, e_tup, e_lst, e_bin, e_neg, negV_int, e_not, e_and, e_or, andV_bl, orV_bl, and_pure, or_pure, e_cmp, e_chain, e_ite, e_idx, e_sli, e_gcd, e_sset, gcdV_int, e_call, callR_ret, e_bi, e_comp, l_nil, l_cons, s_nil, s_cons, then_nx, then_rt, turn_eq, ife_t, ife_f, ifeG_eq, c_asg, c_ret, c_retO, c_exp, c_ife, c_for, c_asgO, c_app, c_sset, g0, gS, st0, stS, thaw_tup, thaw_lst, thaw_own, thaw_int, thaw_bl, thaw_str, thaw_non, thaw_stm, own_tup, own_lst, own_own, own_int, own_bl, own_str, own_non, own_ty, own_stm, tru_bl, tru_int, seq_tup, seq_lst, seq_own, lst_lst, lst_own, add_int, sub_int, eq_int, ne_int, lt_int', le_int', gt_int', ge_int', ne_bl, eq_bl, idx_tup, idx_lst, idx_own, len_1, all_1, any_1, sum_1, tuple_1, list_1, sorted_1, int_1, abs_1, type_1, bind_nm, bind_tp, bind_ns, bind_tpl, min1_1, max1_1, mind_1, min2_1, max2_1, it_enum, enumB_lst, c_par, it_seq, it_rng1, it_rng2, rngA_int, rngB_int, it_zip, zip_tup, zip_lst, par_none, par_some, parB_int, sli_tup, sli_lst, step_none, step_some, wipe_nil, wipe_cons, List.map_cons, List.map_nil, List.length_cons, len_nil, List.all_cons, List.all_nil, List.replicate, List.cons_append, List.nil_append, List.append_nil, List.zip_cons_cons, List.zip_nil_right, List.foldl_cons, List.foldl_nil, eq_self, Option.bind_some, Option.map_some, Bool.not_false, Bool.not_true, Bool.true_and, Bool.and_true, Bool.false_and, Bool.and_false, Bool.or_true, Bool.true_or, Bool.or_false, Bool.false_or, if_true, Bool.false_eq_true, if_false, Nat.sub_self, Nat.reduceAdd, Nat.reduceSub, Nat.reduceEqDiff, ite_true, ite_false, Nat.reduceLeDiff, tyName, ty_not (x := .str b) rfl kn_int, show ("str" == "int") = false by decide +kernel]; rfl
  | tup b => simp only [evF_end, end_nx, end_rt, FU, e_non, e_bl, e_int, e_str, e_ty, e_var, getV_some, e_glo, e_tup, e_lst, e_bin, e_neg, negV_int, e_not, e_and, e_or, andV_bl, orV_bl, and_pure, or_pure, e_cmp, e_chain, e_ite, e_idx, e_sli, e_gcd, e_sset, gcdV_int, e_call, callR_ret, e_bi, e_comp, l_nil, l_cons, s_nil, s_cons, then_nx, then_rt, turn_eq, ife_t, ife_f, ifeG_eq, c_asg, c_ret, c_retO, c_exp, c_ife, c_for, c_asgO, c_app, c_sset, g0, gS, st0, stS, thaw_tup, thaw_lst, thaw_own, thaw_int, thaw_bl, thaw_str, thaw_non, thaw_stm, own_tup, own_lst, own_own, own_int, own_bl, own_str, own_non, own_ty, own_stm, tru_bl, tru_int, seq_tup, seq_lst, seq_own, lst_lst, lst_own, add_int, sub_int, eq_int, ne_int, lt_int', le_int', gt_int', ge_int', ne_bl, eq_bl, idx_tup, idx_lst, idx_own, len_1, all_1, any_1, sum_1, tuple_1, list_1, sorted_1, int_1, abs_1, type_1, bind_nm, bind_tp, bind_ns, bind_tpl, min1_1, max1_1, mind_1, min2_1, max2_1, it_enum, enumB_lst, c_par, it_seq, it_rng1, it_rng2, rngA_int, rngB_int, it_zip, zip_tup, zip_lst, par_none, par_some, parB_int, sli_tup, sli_lst, step_none, step_some, wipe_nil, wipe_cons, List.map_cons, List.map_nil, List.length_cons, len_nil, List.all_cons, List.all_nil, List.replicate, List.cons_append, List.nil_append, List.append_nil, List.zip_cons_cons, List.zip_nil_right, List.foldl_cons, List.foldl_nil, eq_self, Option.bind_some, Option.map_some, Bool.not_false, Bool.not_true, Bool.true_and, Bool.and_true, Bool.false_and, Bool.and_false, Bool.or_true, Bool.true_or, Bool.or_false, Bool.false_or, if_true, Bool.false_eq_true, if_false, Nat.sub_self, Nat.reduceAdd, Nat.reduceSub, Nat.reduceEqDiff, ite_true, ite_false, Nat.reduceLeDiff, tyName, ty_not (x := .tup b) rfl kn_int, show ("tuple" == "int") = false by decide +kernel]; rfl
  | lst b => simp only [evF_end, end_nx, end_rt, FU, e_non, e_bl, e_int, e_str, e_ty, e_var, getV_some, e_glo, e_tup, e_lst, e_bin, e_neg, negV_int, e_not, e_and, e_or, andV_bl, orV_bl, and_pure, or_pure, e_cmp, e_chain, e_ite, e_idx, e_sli, e_gcd, e_sset, gcdV_int, e_call, callR_ret, e_bi, e_comp, l_nil, l_cons, s_nil, s_cons, then_nx, then_rt, turn_eq, ife_t, ife_f, ifeG_eq, c_asg, c_ret, c_retO, c_exp, c_ife, c_for, c_asgO, c_app, c_sset, g0, gS, st0, stS, thaw_tup, thaw_lst, thaw_own, thaw_int, thaw_bl, thaw_str, thaw_non, thaw_stm, own_tup, own_lst, own_own, own_int, own_bl, own_str, own_non, own_ty, own_stm, tru_bl, tru_int, seq_tup, seq_lst, seq_own, lst_lst, lst_own, add_int, sub_int, eq_int, ne_int, lt_int', le_int', gt_int', ge_int', ne_bl, eq_bl, idx_tup, idx_lst, idx_own, len_1, all_1, any_1, sum_1, tuple_1, list_1, sorted_1, int_1, abs_1, type_1, bind_nm, bind_tp, bind_ns, bind_tpl, min1_1, max1_1, mind_1, min2_1, max2_1, it_enum, enumB_lst, c_par, it_seq, it_rng1, it_rng2, rngA_int, rngB_int, it_zip, zip_tup, zip_lst, par_none, par_some, parB_int, sli_tup, sli_lst, step_none, step_some, wipe_nil, wipe_cons, List.map_cons, List.map_nil, List.length_cons, len_nil, List.all_cons, List.all_nil, List.replicate, List.cons_append, List.nil_append, List.append_nil, List.zip_cons_cons, List.zip_nil_right, List.foldl_cons, List.foldl_nil, eq_self, Option.bind_some, Option.map_some, Bool.not_false, Bool.not_true, Bool.true_and, Bool.and_true, Bool.false_and, Bool.and_false, Bool.or_true, Bool.true_or, Bool.or_false, Bool.false_or, if_true, Bool.false_eq_true, if_false, Nat.sub_self, Nat.reduceAdd, Nat.reduceSub, Nat.reduceEqDiff, ite_true, ite_false, Nat.reduceLeDiff, tyName, ty_not (x := .lst b) rfl kn_int, show ("list" == "int") = false by decide +kernel]; rfl
  | _ => simp [PV.pl] at h
theorem istup_ok {T : Tbl} : IsTupOk (evF T 3 P.c_is_tuple) := by
  intro x l m S h
  unfold P.c_is_tuple
  cases x with
  | tup i => simp only [evF_end, end_nx, end_rt, FU, e_non, e_bl, e_int, e_str, e_ty, e_var, getV_some, e_glo, e_tup, e_lst, e_bin, e_neg, negV_int, e_not, e_and, e_or, andV_bl, orV_bl, and_pure, or_pure, e_cmp, e_chain, e_ite, e_idx, e_sli, e_gcd, e_sset, gcdV_int, e_call, callR_ret, e_bi, e_comp, l_nil, l_cons, s_nil, s_cons, then_nx, then_rt, turn_eq, ife_t, ife_f, ifeG_eq, c_asg, c_ret, c_retO, c_exp, c_ife, c_for, c_asgO, c_app, c_sset, g0, gS, st0, stS, thaw_tup, thaw_lst, thaw_own, thaw_int, thaw_bl, thaw_str, thaw_non, thaw_stm, own_tup, own_lst, own_own, own_int, own_bl, own_str, own_non, own_ty, own_stm, tru_bl, tru_int, seq_tup, seq_lst, seq_own, lst_lst, lst_own, add_int, sub_int, eq_int, ne_int, lt_int', le_int', gt_int', ge_int', ne_bl, eq_bl, idx_tup, idx_lst, idx_own, len_1, all_1, any_1, sum_1, tuple_1, list_1, sorted_1, int_1, abs_1, type_1, bind_nm, bind_tp, bind_ns, bind_tpl, min1_1, max1_1, mind_1, min2_1, max2_1, it_enum, enumB_lst, c_par, it_seq, it_rng1, it_rng2, rngA_int, rngB_int, it_zip, zip_tup, zip_lst, par_none, par_some, parB_int, sli_tup, sli_lst, step_none, step_some, wipe_nil, wipe_cons, List.map_cons, List.map_nil, List.length_cons, len_nil, List.all_cons, List.all_nil, List.replicate, List.cons_append, List.nil_append, List.append_nil, List.zip_cons_cons, List.zip_nil_right, List.foldl_cons, List.foldl_nil, eq_self, Option.bind_some, Option.map_some, Bool.not_false, Bool.not_true, Bool.true_and, Bool.and_true, Bool.false_and, Bool.and_false, Bool.or_true, Bool.true_or, Bool.or_false, Bool.false_or, if_true, Bool.false_eq_true, if_false, Nat.sub_self, Nat.reduceAdd, Nat.reduceSub, Nat.reduceEqDiff, ite_true, ite_false, Nat.reduceLeDiff, tyName, ty_eq kn_tuple kn_tuple, sb_tt]; rfl
  | non => simp only [evF_end, end_nx, end_rt, FU, e_non, e_bl, e_int, e_str, e_ty, e_var, getV_some, e_glo, e_tup, e_lst, e_bin, e_neg, negV_int, e_not, e_and, e_or, andV_bl, orV_bl, and_pure, or_pure, e_cmp, e_chain, e_ite, e_idx, e_sli, e_gcd, e_sset, gcdV_int, e_call, callR_ret, e_bi, e_comp, l_nil, l_cons, s_nil, s_cons, then_nx, then_rt, turn_eq, ife_t, ife_f, ifeG_eq, c_asg, c_ret, c_retO, c_exp, c_ife, c_for, c_asgO, c_app, c_sset, g0, gS, st0, stS, thaw_tup, thaw_lst, thaw_own, thaw_int, thaw_bl, thaw_str, thaw_non, thaw_stm, own_tup, own_lst, own_own, own_int, own_bl, own_str, own_non, own_ty, own_stm, tru_bl, tru_int, seq_tup, seq_lst, seq_own, lst_lst, lst_own, add_int, sub_int, eq_int, ne_int, lt_int', le_int', gt_int', ge_int', ne_bl, eq_bl, idx_tup, idx_lst, idx_own, len_1, all_1, any_1, sum_1, tuple_1, list_1, sorted_1, int_1, abs_1, type_1, bind_nm, bind_tp, bind_ns, bind_tpl, min1_1, max1_1, mind_1, min2_1, max2_1, it_enum, enumB_lst, c_par, it_seq, it_rng1, it_rng2, rngA_int, rngB_int, it_zip, zip_tup, zip_lst, par_none, par_some, parB_int, sli_tup, sli_lst, step_none, step_some, wipe_nil, wipe_cons, List.map_cons, List.map_nil, List.length_cons, len_nil, List.all_cons, List.all_nil, List.replicate, List.cons_append, List.nil_append, List.append_nil, List.zip_cons_cons, List.zip_nil_right, List.foldl_cons, List.foldl_nil, eq_self, Option.bind_some, Option.map_some, Bool.not_false, Bool.not_true, Bool.true_and, Bool.and_true, Bool.false_and, Bool.and_false, Bool.or_true, Bool.true_or, Bool.or_false, Bool.false_or, if_true, Bool.false_eq_true, if_false, Nat.sub_self, Nat.reduceAdd, Nat.reduceSub, Nat.reduceEqDiff, ite_true, ite_false, Nat.reduceLeDiff, tyName, ty_not (x := .non) rfl kn_tuple, show ("NoneType" == "tuple") = false by decide +kernel]; rfl
  | bl b => simp only [evF_end, end_nx, end_rt, FU, e_non, e_bl, e_int, e_str, e_ty, e_var, getV_some, e_glo, e_tup, e_lst, e_bin, e_neg, negV_int, e_not, e_and, e_or, andV_bl, orV_bl, and_pure, or_pure, e_cmp, e_chain, e_ite, e_idx, e_sli, e_gcd, e_sset, gcdV_int, e_call, callR_ret, e_bi, e_comp, l_nil, l_cons, s_nil, s_cons, then_nx, then_rt, turn_eq, ife_t, ife_f, ifeG_eq, c_asg, c_ret, c_retO, c_exp, c_ife, c_for, c_asgO, c_app, c_sset, g0, gS, st0, stS, thaw_tup, thaw_lst, thaw_own, thaw_int, thaw_bl, thaw_str, thaw_non, thaw_stm, own_tup, own_lst, own_own, own_int, own_bl, own_str, own_non, own_ty, own_stm, tru_bl, tru_int, seq_tup, seq_lst, seq_own, lst_lst, lst_own, add_int, sub_int, eq_int, ne_int, lt_int', le_int', gt_int', ge_int', ne_bl, eq_bl, idx_tup, idx_lst, idx_own, len_1, all_1, any_1, sum_1, tuple_1, list_1, sorted_1, int_1, abs_1, type_1, bind_nm, bind_tp, bind_ns, bind_tpl, min1_1, max1_1, mind_1, min2_1, max2_1, it_enum, enumB_lst, c_par, it_seq, it_rng1, it_rng2, rngA_int, rngB_int, it_zip, zip_tup, zip_lst, par_none, par_some, parB_int, sli_tup, sli_lst, step_none, step_some, wipe_nil, wipe_cons, List.map_cons, List.map_nil, List.length_cons, len_nil, List.all_cons, List.all_nil, List.replicate, List.cons_append, List.nil_append, List.append_nil, List.zip_cons_cons, List.zip_nil_right, List.foldl_cons, List.foldl_nil, eq_self, Option.bind_some, Option.map_some, Bool.not_false, Bool.not_true, Bool.true_and, Bool.and_true, Bool.false_and, Bool.and_false, Bool.or_true, Bool.true_or, Bool.or_false, Bool.false_or, if_true, Bool.false_eq_true, if_false, Nat.sub_self, Nat.reduceAdd, Nat.reduceSub, Nat.reduceEqDiff, ite_true, ite_false, Nat.reduceLeDiff, tyName, ty_not (x := .bl b) rfl kn_tuple, show ("bool" == "tuple") = false by decide +kernel]; rfl
  | str b => simp only [evF_end, end_nx, end_rt, FU, e_non, e_bl, e_int, e_str, e_ty, e_var, getV_some, e_glo, e_tup, e_lst, e_bin, e_neg, negV_int, e_not, e_and, e_or, andV_bl, orV_bl, and_pure, or_pure, e_cmp, e_chain, e_ite, e_idx, e_sli, e_gcd, e_sset, gcdV_int, e_call, callR_ret, e_bi, e_comp, l_nil, l_cons, s_nil, s_cons, then_nx, then_rt, turn_eq, ife_t, ife_f, ifeG_eq, c_asg, c_ret, c_retO, c_exp, c_ife, c_for, c_asgO, c_app, c_sset, g0, gS, st0, stS, thaw_tup, thaw_lst, thaw_own, thaw_int, thaw_bl, thaw_str, thaw_non, thaw_stm, own_tup, own_lst, own_own, own_int, own_bl, own_str, own_non, own_ty, own_stm, tru_bl, tru_int, seq_tup, seq_lst, seq_own, lst_lst, lst_own, add_int, sub_int, eq_int, ne_int, lt_int', le_int', gt_int', ge_int', ne_bl, eq_bl, idx_tup, idx_lst, idx_own, len_1, all_1, any_1, sum_1, tuple_1, list_1, sorted_1, int_1, abs_1, type_1, bind_nm, bind_tp, bind_ns, bind_tpl, min1_1, max1_1, mind_1, min2_1, max2_1, it_enum, enumB_lst, c_par, it_seq, it_rng1, it_rng2, rngA_int, rngB_int, it_zip, zip_tup, zip_lst, par_none, par_some, parB_int, sli_tup, sli_lst, step_none, step_some, wipe_nil, wipe_cons, List.map_cons, List.map_nil, List.length_cons, len_nil, List.all_cons, List.all_nil, List.replicate, List.cons_append, List.nil_append, List.append_nil, List.zip_cons_cons, List.zip_nil_right, List.foldl_cons, List.foldl_nil, eq_self, Option.bind_some, Option.map_some, Bool.not_false, Bool.not_true, Bool.true_and, Bool.and_true, Bool.false_and, Bool.and_false, Bool.or_true, Bool.true_or, Bool.or_false, Bool.false_or, if_true, Bool.false_eq_true, if_false, Nat.sub_self, Nat.reduceAdd, Nat.reduceSub, Nat.reduceEqDiff, ite_true, ite_false, Nat.reduceLeDiff, tyName, ty_not (x := .str b) rfl kn_tuple, show ("str" == "tuple") = false by decide +kernel]; rfl
  | int b => simp only [evF_end, end_nx, end_rt, FU, e_non, e_bl, e_int, e_str, e_ty, e_var, getV_some, e_glo, e_tup, e_lst, e_bin, e_neg, negV_int, e_not, e_and, e_or, andV_bl, orV_bl, and_pure, or_pure, e_cmp, e_chain, e_ite, e_idx, e_sli, e_gcd, e_sset, gcdV_int, e_call, callR_ret, e_bi, e_comp, l_nil, l_cons, s_nil, s_cons, then_nx, then_rt, turn_eq, ife_t, ife_f, ifeG_eq, c_asg, c_ret, c_retO, c_exp, c_ife, c_for, c_asgO, c_app, c_sset, g0, gS, st0, stS, thaw_tup, thaw_lst, thaw_own, thaw_int, thaw_bl, thaw_str, thaw_non, thaw_stm, own_tup, own_lst, own_own, own_int, own_bl, own_str, own_non, own_ty, own_stm, tru_bl, tru_int, seq_tup, seq_lst, seq_own, lst_lst, lst_own, add_int, sub_int, eq_int, ne_int, lt_int', le_int', gt_int', ge_int', ne_bl, eq_bl, idx_tup, idx_lst, idx_own, len_1, all_1, any_1, sum_1, tuple_1, list_1, sorted_1, int_1, abs_1, type_1, bind_nm, bind_tp, bind_ns, bind_tpl, min1_1, max1_1, mind_1, min2_1, max2_1, it_enum, enumB_lst, c_par, it_seq, it_rng1, it_rng2, rngA_int, rngB_int, it_zip, zip_tup, zip_lst, par_none, par_some, parB_int, sli_tup, sli_lst, step_none, step_some, wipe_nil, wipe_cons, List.map_cons, List.map_nil, List.length_cons, len_nil, List.all_cons, List.all_nil, List.replicate, List.cons_append, List.nil_append, List.append_nil, List.zip_cons_cons, List.zip_nil_right, List.foldl_cons, List.foldl_nil, eq_self, Option.bind_some, Option.map_some, Bool.not_false, Bool.not_true, Bool.true_and, Bool.and_true, Bool.false_and, Bool.and_false, Bool.or_true, Bool.true_or, Bool.or_false, Bool.false_or, if_true, Bool.false_eq_true, if_false, Nat.sub_self, Nat.reduceAdd, Nat.reduceSub, Nat.reduceEqDiff, ite_true, ite_false, Nat.reduceLeDiff, tyName, ty_not (x := .int b) rfl kn_tuple, show ("int" == "tuple") = false by decide +kernel]; rfl
  | lst b => simp only [evF_end, end_nx, end_rt, FU, e_non, e_bl, e_int, e_str, e_ty, e_var, getV_some, e_glo, e_tup, e_lst, e_bin, e_neg, negV_int, e_not, e_and, e_or, andV_bl, orV_bl, and_pure, or_pure, e_cmp, e_chain, e_ite, e_idx, e_sli, e_gcd, e_sset, gcdV_int, e_call, callR_ret, e_bi, e_comp, l_nil, l_cons, s_nil, s_cons, then_nx, then_rt, turn_eq, ife_t, ife_f, ifeG_eq, c_asg, c_ret, c_retO, c_exp, c_ife, c_for, c_asgO, c_app, c_sset, g0, gS, st0, stS, thaw_tup, thaw_lst, thaw_own, thaw_int, thaw_bl, thaw_str, thaw_non, thaw_stm, own_tup, own_lst, own_own, own_int, own_bl, own_str, own_non, own_ty, own_stm, tru_bl, tru_int, seq_tup, seq_lst, seq_own, lst_lst, lst_own, add_int, sub_int, eq_int, ne_int, lt_int', le_int', gt_int', ge_int', ne_bl, eq_bl, idx_tup, idx_lst, idx_own, len_1, all_1, any_1, sum_1, tuple_1, list_1, sorted_1, int_1, abs_1, type_1, bind_nm, bind_tp, bind_ns, bind_tpl, min1_1, max1_1, mind_1, min2_1, max2_1, it_enum, enumB_lst, c_par, it_seq, it_rng1, it_rng2, rngA_int, rngB_int, it_zip, zip_tup, zip_lst, par_none, par_some, parB_int, sli_tup, sli_lst, step_none, step_some, wipe_nil, wipe_cons, List.map_cons, List.map_nil, List.length_cons, len_nil, List.all_cons, List.all_nil, List.replicate, List.cons_append, List.nil_append, List.append_nil, List.zip_cons_cons, List.zip_nil_right, List.foldl_cons, List.foldl_nil, eq_self, Option.bind_some, Option.map_some, Bool.not_false, Bool.not_true, Bool.true_and, Bool.and_true, Bool.false_and, Bool.and_false, Bool.or_true, Bool.true_or, Bool.or_false, Bool.false_or, if_true, Bool.false_eq_true, if_false, Nat.sub_self, Nat.reduceAdd, Nat.reduceSub, Nat.reduceEqDiff, ite_true, ite_false, Nat.reduceLeDiff, tyName, ty_not (x := .lst b) rfl kn_tuple, show ("list" == "tuple") = false by decide +kernel]; rfl
  | _ => simp [PV.pl] at h

/-! ### is_ascending -/
def ascL : List PV → Option (List Bool)
  | [] => some []
  | [_] => some []
  | x :: y :: r => (cmpV .lt x y).bind fun b => (ascL (y :: r)).map (b :: ·)
theorem cut1 {l : List PV} : cutP l (some 1) none = l.drop 1 := by
  unfold cutP HT.sIx
  cases l with
  | nil => rfl
  | cons x xs =>
    have : (if (1 : Int) < 0 then ((1 : Int) + ((x :: xs).length : Int)).toNat else min (1 : Int).toNat (x :: xs).length) = 1 := by
      rw [if_neg (by decide)]
      show min 1 (xs.length + 1) = 1
      omega
    dsimp only
    rw [this]
    simp
theorem asc_walk {step : PV → Strm → Option (Option PV × Strm)} {S : Strm} (hs : ∀ x y b, x.pl = true → y.pl = true → cmpV .lt x y = some b → step (.tup [x, y]) S = some (some (.bl b), S)) : ∀ {xs : List PV} {bs : List Bool}, PV.pls xs = true → ascL xs = some bs → compL step (zipV xs (xs.drop 1)) S = some (bs.map .bl, S)
  | [], bs, _, e => by simp only [ascL, Option.some.injEq] at e; subst e; rfl
  | [x], bs, _, e => by simp only [ascL, Option.some.injEq] at e; subst e; rfl
  | x :: y :: r, bs, h, e => by
    simp only [ascL, Option.bind_eq_some_iff, Option.map_eq_some_iff] at e
    obtain ⟨b, e1, cs, e2, rfl⟩ := e
    simp only [PV.pls, Bool.and_eq_true] at h
    have ih := asc_walk hs (xs := y :: r) (by simp only [PV.pls, Bool.and_eq_true]; exact h.2) e2
    show compL step (.tup [x, y] :: zipV (y :: r) r) S = _
    rw [compL, hs x y b h.1 h.2.1 e1, Option.bind_some]
    have ih' : compL step (zipV (y :: r) r) S = some (cs.map .bl, S) := ih
    dsimp only
    rw [ih', Option.map_some]
    rfl
def AscOk (φ : Fn) : Prop := ∀ x xs bs S, (x = .tup xs ∨ x = .lst xs) → PV.pls xs = true → xs.length ≤ LIM → ascL xs = some bs → φ [x] S = some (.ret (.bl (bs.all id)), S)
theorem zipV_len {xs ys : List PV} : (zipV xs ys).length = min xs.length ys.length := by unfold zipV; rw [List.length_map, List.length_zip]
theorem asc_ok {T : Tbl} : AscOk (evF T 3 P.c_is_ascending) := by
  intro x xs bs S hx hp hl e
  unfold P.c_is_ascending
  have hlen : (zipV xs (xs.drop 1)).length ≤ LIM := by rw [zipV_len]; omega
  have step : ∀ x y b, x.pl = true → y.pl = true → cmpV .lt x y = some b → stepV (fun e env S => evE T 58 e env S) (.cmp .lt (.var 1) (.var 2)) (.tp [1, 2]) none [some (.tup xs), none, none] (.tup [x, y]) S = some (some (.bl b), S) := by
    intro x y b hx hy hb
    simp only [evF_end, end_nx, end_rt, FU, e_non, e_bl, e_int, e_str, e_ty, e_var, getV_some, e_glo, e_tup, e_lst, e_bin, e_neg, negV_int, e_not, e_and, e_or, andV_bl, orV_bl, and_pure, or_pure, e_cmp, e_chain, e_ite, e_idx, e_sli, e_gcd, e_sset, gcdV_int, e_call, callR_ret, e_bi, e_comp, l_nil, l_cons, s_nil, s_cons, then_nx, then_rt, turn_eq, ife_t, ife_f, ifeG_eq, c_asg, c_ret, c_retO, c_exp, c_ife, c_for, c_asgO, c_app, c_sset, g0, gS, st0, stS, thaw_tup, thaw_lst, thaw_own, thaw_int, thaw_bl, thaw_str, thaw_non, thaw_stm, own_tup, own_lst, own_own, own_int, own_bl, own_str, own_non, own_ty, own_stm, tru_bl, tru_int, seq_tup, seq_lst, seq_own, lst_lst, lst_own, add_int, sub_int, eq_int, ne_int, lt_int', le_int', gt_int', ge_int', ne_bl, eq_bl, idx_tup, idx_lst, idx_own, len_1, all_1, any_1, sum_1, tuple_1, list_1, sorted_1, int_1, abs_1, type_1, bind_nm, bind_tp, bind_ns, bind_tpl, min1_1, max1_1, mind_1, min2_1, max2_1, it_enum, enumB_lst, c_par, it_seq, it_rng1, it_rng2, rngA_int, rngB_int, it_zip, zip_tup, zip_lst, par_none, par_some, parB_int, sli_tup, sli_lst, step_none, step_some, wipe_nil, wipe_cons, List.map_cons, List.map_nil, List.length_cons, len_nil, List.all_cons, List.all_nil, List.replicate, List.cons_append, List.nil_append, List.append_nil, List.zip_cons_cons, List.zip_nil_right, List.foldl_cons, List.foldl_nil, eq_self, Option.bind_some, Option.map_some, Bool.not_false, Bool.not_true, Bool.true_and, Bool.and_true, Bool.false_and, Bool.and_false, Bool.or_true, Bool.true_or, Bool.or_false, Bool.false_or, if_true, Bool.false_eq_true, if_false, Nat.sub_self, Nat.reduceAdd, Nat.reduceSub, Nat.reduceEqDiff, ite_true, ite_false, Nat.reduceLeDiff, hb]
  have step' : ∀ x y b, x.pl = true → y.pl = true → cmpV .lt x y = some b → stepV (fun e env S => evE T 58 e env S) (.cmp .lt (.var 1) (.var 2)) (.tp [1, 2]) none [some (.lst xs), none, none] (.tup [x, y]) S = some (some (.bl b), S) := by
    intro x y b hx hy hb
    simp only [evF_end, end_nx, end_rt, FU, e_non, e_bl, e_int, e_str, e_ty, e_var, getV_some, e_glo, e_tup, e_lst, e_bin, e_neg, negV_int, e_not, e_and, e_or, andV_bl, orV_bl, and_pure, or_pure, e_cmp, e_chain, e_ite, e_idx, e_sli, e_gcd, e_sset, gcdV_int, e_call, callR_ret, e_bi, e_comp, l_nil, l_cons, s_nil, s_cons, then_nx, then_rt, turn_eq, ife_t, ife_f, ifeG_eq, c_asg, c_ret, c_retO, c_exp, c_ife, c_for, c_asgO, c_app, c_sset, g0, gS, st0, stS, thaw_tup, thaw_lst, thaw_own, thaw_int, thaw_bl, thaw_str, thaw_non, thaw_stm, own_tup, own_lst, own_own, own_int, own_bl, own_str, own_non, own_ty, own_stm, tru_bl, tru_int, seq_tup, seq_lst, seq_own, lst_lst, lst_own, add_int, sub_int, eq_int, ne_int, lt_int', le_int', gt_int', ge_int', ne_bl, eq_bl, idx_tup, idx_lst, idx_own, len_1, all_1, any_1, sum_1, tuple_1, list_1, sorted_1, int_1, abs_1, type_1, bind_nm, bind_tp, bind_ns, bind_tpl, min1_1, max1_1, mind_1, min2_1, max2_1, it_enum, enumB_lst, c_par, it_seq, it_rng1, it_rng2, rngA_int, rngB_int, it_zip, zip_tup, zip_lst, par_none, par_some, parB_int, sli_tup, sli_lst, step_none, step_some, wipe_nil, wipe_cons, List.map_cons, List.map_nil, List.length_cons, len_nil, List.all_cons, List.all_nil, List.replicate, List.cons_append, List.nil_append, List.append_nil, List.zip_cons_cons, List.zip_nil_right, List.foldl_cons, List.foldl_nil, eq_self, Option.bind_some, Option.map_some, Bool.not_false, Bool.not_true, Bool.true_and, Bool.and_true, Bool.false_and, Bool.and_false, Bool.or_true, Bool.true_or, Bool.or_false, Bool.false_or, if_true, Bool.false_eq_true, if_false, Nat.sub_self, Nat.reduceAdd, Nat.reduceSub, Nat.reduceEqDiff, ite_true, ite_false, Nat.reduceLeDiff, hb]
  rcases hx with rfl | rfl
  · simp only [evF_end, end_nx, end_rt, FU, e_non, e_bl, e_int, e_str, e_ty, e_var, getV_some, e_glo, e_tup, e_lst, e_bin, e_neg, negV_int, e_not, e_and, e_or, andV_bl, orV_bl, and_pure, or_pure, e_cmp, e_chain, e_ite, e_idx, e_sli, e_gcd, e_sset, gcdV_int, e_call, callR_ret, e_bi, e_comp, l_nil, l_cons, s_nil, s_cons, then_nx, then_rt, turn_eq, ife_t, ife_f, ifeG_eq, c_asg, c_ret, c_retO, c_exp, c_ife, c_for, c_asgO, c_app, c_sset, g0, gS, st0, stS, thaw_tup, thaw_lst, thaw_own, thaw_int, thaw_bl, thaw_str, thaw_non, thaw_stm, own_tup, own_lst, own_own, own_int, own_bl, own_str, own_non, own_ty, own_stm, tru_bl, tru_int, seq_tup, seq_lst, seq_own, lst_lst, lst_own, add_int, sub_int, eq_int, ne_int, lt_int', le_int', gt_int', ge_int', ne_bl, eq_bl, idx_tup, idx_lst, idx_own, len_1, all_1, any_1, sum_1, tuple_1, list_1, sorted_1, int_1, abs_1, type_1, bind_nm, bind_tp, bind_ns, bind_tpl, min1_1, max1_1, mind_1, min2_1, max2_1, it_enum, enumB_lst, c_par, it_seq, it_rng1, it_rng2, rngA_int, rngB_int, it_zip, zip_tup, zip_lst, par_none, par_some, parB_int, sli_tup, sli_lst, step_none, step_some, wipe_nil, wipe_cons, List.map_cons, List.map_nil, List.length_cons, len_nil, List.all_cons, List.all_nil, List.replicate, List.cons_append, List.nil_append, List.append_nil, List.zip_cons_cons, List.zip_nil_right, List.foldl_cons, List.foldl_nil, eq_self, Option.bind_some, Option.map_some, Bool.not_false, Bool.not_true, Bool.true_and, Bool.and_true, Bool.false_and, Bool.and_false, Bool.or_true, Bool.true_or, Bool.or_false, Bool.false_or, if_true, Bool.false_eq_true, if_false, Nat.sub_self, Nat.reduceAdd, Nat.reduceSub, Nat.reduceEqDiff, ite_true, ite_false, Nat.reduceLeDiff, cut1, hlen, asc_walk step hp e, bls_map]
  · simp only [evF_end, end_nx, end_rt, FU, e_non, e_bl, e_int, e_str, e_ty, e_var, getV_some, e_glo, e_tup, e_lst, e_bin, e_neg, negV_int, e_not, e_and, e_or, andV_bl, orV_bl, and_pure, or_pure, e_cmp, e_chain, e_ite, e_idx, e_sli, e_gcd, e_sset, gcdV_int, e_call, callR_ret, e_bi, e_comp, l_nil, l_cons, s_nil, s_cons, then_nx, then_rt, turn_eq, ife_t, ife_f, ifeG_eq, c_asg, c_ret, c_retO, c_exp, c_ife, c_for, c_asgO, c_app, c_sset, g0, gS, st0, stS, thaw_tup, thaw_lst, thaw_own, thaw_int, thaw_bl, thaw_str, thaw_non, thaw_stm, own_tup, own_lst, own_own, own_int, own_bl, own_str, own_non, own_ty, own_stm, tru_bl, tru_int, seq_tup, seq_lst, seq_own, lst_lst, lst_own, add_int, sub_int, eq_int, ne_int, lt_int', le_int', gt_int', ge_int', ne_bl, eq_bl, idx_tup, idx_lst, idx_own, len_1, all_1, any_1, sum_1, tuple_1, list_1, sorted_1, int_1, abs_1, type_1, bind_nm, bind_tp, bind_ns, bind_tpl, min1_1, max1_1, mind_1, min2_1, max2_1, it_enum, enumB_lst, c_par, it_seq, it_rng1, it_rng2, rngA_int, rngB_int, it_zip, zip_tup, zip_lst, par_none, par_some, parB_int, sli_tup, sli_lst, step_none, step_some, wipe_nil, wipe_cons, List.map_cons, List.map_nil, List.length_cons, len_nil, List.all_cons, List.all_nil, List.replicate, List.cons_append, List.nil_append, List.append_nil, List.zip_cons_cons, List.zip_nil_right, List.foldl_cons, List.foldl_nil, eq_self, Option.bind_some, Option.map_some, Bool.not_false, Bool.not_true, Bool.true_and, Bool.and_true, Bool.false_and, Bool.and_false, Bool.or_true, Bool.true_or, Bool.or_false, Bool.false_or, if_true, Bool.false_eq_true, if_false, Nat.sub_self, Nat.reduceAdd, Nat.reduceSub, Nat.reduceEqDiff, ite_true, ite_false, Nat.reduceLeDiff, cut1, hlen, asc_walk step' hp e, bls_map]
end Ws

/-! Ws21: links, nets, wishes, fences. -/
namespace Ws
open PySem PySem.Spec L2

/-- a road or a wish -/
abbrev Lk := Int × Int × Int
def lk (r : Lk) : PV := .tup [.int r.1, .int r.2.1, .int r.2.2]
def goodLk (p m : Int) (r : Lk) : Bool := decide (0 ≤ r.1) && decide (r.1 ≤ p - 1) && (decide (r.1 + 1 ≤ r.2.1) && decide (r.2.1 ≤ p - 1)) && (decide (1 ≤ r.2.2) && decide (r.2.2 ≤ m))
theorem isW_int {x : PV} {l m : Int} (h : isW x l m = true) : ∃ i, x = .int i ∧ l ≤ i ∧ i ≤ m := by
  unfold isW at h
  split at h
  · simp only [Bool.and_eq_true, decide_eq_true_eq] at h
    exact ⟨_, rfl, h.1, h.2⟩
  · cases h
structure Tw (T : Tbl) : Prop where
  w : ∃ φ, T.fn "is_within" = some (3, φ) ∧ WithinOk φ
  t : ∃ φ, T.fn "is_tuple" = some (3, φ) ∧ IsTupOk φ
/-- a pair of points, the lesser one first -/
def isPr (x : PV) (p : Int) : Bool :=
  match x with
  | .tup [.int i, .int j] => decide (0 ≤ i) && decide (i ≤ p - 1) && (decide (i + 1 ≤ j) && decide (j ≤ p - 1))
  | _ => false
theorem isPr_eq (a b : PV) (p : Int) : isPr (.tup [a, b]) p = (isW a 0 (p - 1) && (match a with | .int i => isW b (i + 1) (p - 1) | _ => false)) := by
  cases a <;> first | rfl | skip
  rename_i i
  cases b <;> first | (simp [isPr, isW]; done) | skip
def IsPairOk (φ : Fn) : Prop := ∀ x p S, x.pl = true → φ [x, .int p] S = some (.ret (.bl (isPr x p)), S)
theorem pair_ok {T : Tbl} (H : Tw T) : IsPairOk (evF T 4 P.c_is_pair) := by
  intro x p S hx
  obtain ⟨φw, ew, hw⟩ := H.w
  obtain ⟨φt, et, ht⟩ := H.t
  unfold P.c_is_pair
  by_cases hT : isT x 2 2 = true
  · cases x with
    | tup l =>
      simp only [isT, Bool.and_eq_true, decide_eq_true_eq] at hT
      have hl : l.length = 2 := by omega
      match l, hl with
      | [a, b], _ =>
        simp only [PV.pl, PV.pls, Bool.and_eq_true] at hx
        have ha := hx.1
        have hb := hx.2.1
        have hT' : ∀ S, φt [.tup [a, b], .int 2, .int 2] S = some (.ret (.bl true), S) := fun S => by
          rw [ht _ _ _ _ (by simp [PV.pl, PV.pls, ha, hb])]; rfl
        rw [isPr_eq]
        by_cases h1 : isW a 0 (p - 1) = true
        · obtain ⟨i, rfl, h2, h3⟩ := isW_int h1
          simp only [evF_end, end_nx, end_rt, FU, e_non, e_bl, e_int, e_str, e_ty, e_var, getV_some, e_glo, e_tup, e_lst, e_bin, e_neg, negV_int, e_not, e_and, e_or, andV_bl, orV_bl, and_pure, or_pure, e_cmp, e_chain, e_ite, e_idx, e_sli, e_gcd, e_sset, gcdV_int, e_call, callR_ret, e_bi, e_comp, l_nil, l_cons, s_nil, s_cons, then_nx, then_rt, turn_eq, ife_t, ife_f, ifeG_eq, c_asg, c_ret, c_retO, c_exp, c_ife, c_for, c_asgO, c_app, c_sset, g0, gS, st0, stS, thaw_tup, thaw_lst, thaw_own, thaw_int, thaw_bl, thaw_str, thaw_non, thaw_stm, own_tup, own_lst, own_own, own_int, own_bl, own_str, own_non, own_ty, own_stm, tru_bl, tru_int, seq_tup, seq_lst, seq_own, lst_lst, lst_own, add_int, sub_int, eq_int, ne_int, lt_int', le_int', gt_int', ge_int', ne_bl, eq_bl, idx_tup, idx_lst, idx_own, len_1, all_1, any_1, sum_1, tuple_1, list_1, sorted_1, int_1, abs_1, type_1, bind_nm, bind_tp, bind_ns, bind_tpl, min1_1, max1_1, mind_1, min2_1, max2_1, it_enum, enumB_lst, c_par, it_seq, it_rng1, it_rng2, rngA_int, rngB_int, it_zip, zip_tup, zip_lst, par_none, par_some, parB_int, sli_tup, sli_lst, step_none, step_some, wipe_nil, wipe_cons, List.map_cons, List.map_nil, List.length_cons, len_nil, List.all_cons, List.all_nil, List.replicate, List.cons_append, List.nil_append, List.append_nil, List.zip_cons_cons, List.zip_nil_right, List.foldl_cons, List.foldl_nil, eq_self, Option.bind_some, Option.map_some, Bool.not_false, Bool.not_true, Bool.true_and, Bool.and_true, Bool.false_and, Bool.and_false, Bool.or_true, Bool.true_or, Bool.or_false, Bool.false_or, if_true, Bool.false_eq_true, if_false, Nat.sub_self, Nat.reduceAdd, Nat.reduceSub, Nat.reduceEqDiff, ite_true, ite_false, Nat.reduceLeDiff, et, hT', ew, hw _ _ _ _ pl_int, hw _ _ _ _ hb, pl_own hb, pl_thaw hb, h1]
        · have h1 := Bool.eq_false_iff.mpr h1
          simp only [evF_end, end_nx, end_rt, FU, e_non, e_bl, e_int, e_str, e_ty, e_var, getV_some, e_glo, e_tup, e_lst, e_bin, e_neg, negV_int, e_not, e_and, e_or, andV_bl, orV_bl, and_pure, or_pure, e_cmp, e_chain, e_ite, e_idx, e_sli, e_gcd, e_sset, gcdV_int, e_call, callR_ret, e_bi, e_comp, l_nil, l_cons, s_nil, s_cons, then_nx, then_rt, turn_eq, ife_t, ife_f, ifeG_eq, c_asg, c_ret, c_retO, c_exp, c_ife, c_for, c_asgO, c_app, c_sset, g0, gS, st0, stS, thaw_tup, thaw_lst, thaw_own, thaw_int, thaw_bl, thaw_str, thaw_non, thaw_stm, own_tup, own_lst, own_own, own_int, own_bl, own_str, own_non, own_ty, own_stm, tru_bl, tru_int, seq_tup, seq_lst, seq_own, lst_lst, lst_own, add_int, sub_int, eq_int, ne_int, lt_int', le_int', gt_int', ge_int', ne_bl, eq_bl, idx_tup, idx_lst, idx_own, len_1, all_1, any_1, sum_1, tuple_1, list_1, sorted_1, int_1, abs_1, type_1, bind_nm, bind_tp, bind_ns, bind_tpl, min1_1, max1_1, mind_1, min2_1, max2_1, it_enum, enumB_lst, c_par, it_seq, it_rng1, it_rng2, rngA_int, rngB_int, it_zip, zip_tup, zip_lst, par_none, par_some, parB_int, sli_tup, sli_lst, step_none, step_some, wipe_nil, wipe_cons, List.map_cons, List.map_nil, List.length_cons, len_nil, List.all_cons, List.all_nil, List.replicate, List.cons_append, List.nil_append, List.append_nil, List.zip_cons_cons, List.zip_nil_right, List.foldl_cons, List.foldl_nil, eq_self, Option.bind_some, Option.map_some, Bool.not_false, Bool.not_true, Bool.true_and, Bool.and_true, Bool.false_and, Bool.and_false, Bool.or_true, Bool.true_or, Bool.or_false, Bool.false_or, if_true, Bool.false_eq_true, if_false, Nat.sub_self, Nat.reduceAdd, Nat.reduceSub, Nat.reduceEqDiff, ite_true, ite_false, Nat.reduceLeDiff, et, hT', ew, hw _ _ _ _ ha, pl_own ha, pl_own hb, pl_thaw ha, pl_thaw hb, h1]
    | _ => simp [isT] at hT
  · have hF : isPr x p = false := by
      unfold isPr
      split
      · simp [isT] at hT
      · rfl
    have hT := Bool.eq_false_iff.mpr hT
    simp only [evF_end, end_nx, end_rt, FU, e_non, e_bl, e_int, e_str, e_ty, e_var, getV_some, e_glo, e_tup, e_lst, e_bin, e_neg, negV_int, e_not, e_and, e_or, andV_bl, orV_bl, and_pure, or_pure, e_cmp, e_chain, e_ite, e_idx, e_sli, e_gcd, e_sset, gcdV_int, e_call, callR_ret, e_bi, e_comp, l_nil, l_cons, s_nil, s_cons, then_nx, then_rt, turn_eq, ife_t, ife_f, ifeG_eq, c_asg, c_ret, c_retO, c_exp, c_ife, c_for, c_asgO, c_app, c_sset, g0, gS, st0, stS, thaw_tup, thaw_lst, thaw_own, thaw_int, thaw_bl, thaw_str, thaw_non, thaw_stm, own_tup, own_lst, own_own, own_int, own_bl, own_str, own_non, own_ty, own_stm, tru_bl, tru_int, seq_tup, seq_lst, seq_own, lst_lst, lst_own, add_int, sub_int, eq_int, ne_int, lt_int', le_int', gt_int', ge_int', ne_bl, eq_bl, idx_tup, idx_lst, idx_own, len_1, all_1, any_1, sum_1, tuple_1, list_1, sorted_1, int_1, abs_1, type_1, bind_nm, bind_tp, bind_ns, bind_tpl, min1_1, max1_1, mind_1, min2_1, max2_1, it_enum, enumB_lst, c_par, it_seq, it_rng1, it_rng2, rngA_int, rngB_int, it_zip, zip_tup, zip_lst, par_none, par_some, parB_int, sli_tup, sli_lst, step_none, step_some, wipe_nil, wipe_cons, List.map_cons, List.map_nil, List.length_cons, len_nil, List.all_cons, List.all_nil, List.replicate, List.cons_append, List.nil_append, List.append_nil, List.zip_cons_cons, List.zip_nil_right, List.foldl_cons, List.foldl_nil, eq_self, Option.bind_some, Option.map_some, Bool.not_false, Bool.not_true, Bool.true_and, Bool.and_true, Bool.false_and, Bool.and_false, Bool.or_true, Bool.true_or, Bool.or_false, Bool.false_or, if_true, Bool.false_eq_true, if_false, Nat.sub_self, Nat.reduceAdd, Nat.reduceSub, Nat.reduceEqDiff, ite_true, ite_false, Nat.reduceLeDiff, et, ht _ _ _ _ hx, hT, pl_own hx, pl_thaw hx, hF]
/-- the pairs of points go up -/
def ascP : List Lk → Bool
  | [] => true
  | [_] => true
  | x :: y :: r => (decide (x.1 < y.1) || (decide (x.1 = y.1) && decide (x.2.1 < y.2.1))) && ascP (y :: r)
def ascI : List Int → Bool
  | [] => true
  | [_] => true
  | x :: y :: r => decide (x < y) && ascI (y :: r)
def pr2 (r : Lk) : PV := .tup [.int r.1, .int r.2.1]
theorem lt_pr2 (x y : Lk) : cmpV .lt (pr2 x) (pr2 y) = some (decide (x.1 < y.1) || (decide (x.1 = y.1) && decide (x.2.1 < y.2.1))) := by
  show ltD (pr2 x) (pr2 y) = _
  unfold ltD pr2
  have e1 : (PV.tup [.int x.1, .int x.2.1]).pd = some (.tuple [.int x.1, .int x.2.1]) := by simp [PV.pd, PV.pds]
  have e2 : (PV.tup [.int y.1, .int y.2.1]).pd = some (.tuple [.int y.1, .int y.2.1]) := by simp [PV.pd, PV.pds]
  rw [e1, e2]
  dsimp only
  rw [if_pos (by simp [PySem.W.alike, PySem.W.alikeAll, notNone, PyData.depth, PyData.depthAll]), PySem.W.dataLt_ii]
  congr 1
  simp
theorem ascL_pr2 : ∀ l : List Lk, ∃ bs, ascL (l.map pr2) = some bs ∧ bs.all id = ascP l
  | [] => ⟨[], rfl, rfl⟩
  | [x] => ⟨[], rfl, rfl⟩
  | x :: y :: r => by
    obtain ⟨bs, h1, h2⟩ := ascL_pr2 (y :: r)
    refine ⟨(decide (x.1 < y.1) || (decide (x.1 = y.1) && decide (x.2.1 < y.2.1))) :: bs, ?_, ?_⟩
    · show (cmpV .lt (pr2 x) (pr2 y)).bind _ = _
      rw [lt_pr2, Option.bind_some]
      have h1' : ascL (pr2 y :: r.map pr2) = some bs := h1
      rw [h1']; rfl
    · rw [List.all_cons, h2]; rfl
end Ws

/-! Ws22: nets, fences, widths. -/
namespace Ws
open PySem PySem.Spec L2

/-! ### sets of points -/
def rising (xs : List PV) (l m : Int) : Bool := match ints? xs with | some ns => (ns.all fun i => decide (l ≤ i) && decide (i ≤ m)) && ascI ns | none => false
/-- the net of points and roads -/
def netV (n : Int) (ls : List Lk) : PV := .tup [.int n, .tup (ls.map lk)]
def ptsV (ns : List Int) : PV := .tup (ns.map .int)
structure GoodNet (n : Int) (ls : List Lk) : Prop where
  lo : 2 ≤ n
  hi : n ≤ 7
  len : ls.length ≤ 15
  good : ∀ r ∈ ls, goodLk n 6 r = true
  asc : ascP ls = true
/-- membership among points -/
theorem mem_int {i : Int} {ns : List Int} : memV (.int i) (ns.map .int) = some (decide (i ∈ ns)) := by
  unfold memV
  rw [if_pos]
  · congr 1
    rw [List.any_map]
    induction ns with
    | nil => rfl
    | cons x ns ih =>
      rw [List.any_cons, ih]
      show ((x == i) || _) = _
      by_cases h : x = i
      · subst h; simp
      · have h' : ¬ i = x := fun e => h e.symm
        simp [h, h']
  · rw [List.all_map]
    simp [PV.flat1]
theorem mem_tup {i : Int} {ns : List Int} : cmpV .mem (.int i) (.tup (ns.map .int)) = some (decide (i ∈ ns)) := mem_int
/-- the roads between a set and the rest -/
def crossV (ls : List Lk) (ns : List Int) : Int := ((ls.filter fun r => decide (r.1 ∈ ns) != decide (r.2.1 ∈ ns)).map fun r => r.2.2).sum
theorem filterMap_if {α β : Type} (p : α → Bool) (f : α → β) : ∀ l : List α, l.filterMap (fun x => if p x then some (f x) else none) = (l.filter p).map f
  | [] => rfl
  | x :: l => by
    cases h : p x with
    | true => rw [List.filter_cons_of_pos h, List.map_cons, List.filterMap_cons_some (by rw [h]; rfl), filterMap_if p f l]
    | false => rw [List.filter_cons_of_neg (by rw [h]; exact Bool.false_ne_true), List.filterMap_cons_none (by rw [h]; rfl), filterMap_if p f l]
end Ws

/-! Ws23: what is drawn. -/
namespace Ws
open PySem PySem.Spec L2

def SOk (S : Strm) : Prop := ∃ scr c k, S = some (scr, c, k) ∧ 0 ≤ k
theorem SOk.some {S : Strm} (h : SOk S) : S.isSome = true := by obtain ⟨_, _, _, rfl, _⟩ := h; rfl
theorem sset_1 {scr : List Int} {c k z : Int} {env : Env} {i : Nat} (h : env[i]? = some (some .stm)) : ssetV i 1 env (.int z, some (scr, c, k)) = some (.nx env, some (scr, z, k)) := by
  unfold ssetV; dsimp only; rw [h]; rfl
theorem sset_2 {scr : List Int} {c k z : Int} {env : Env} {i : Nat} (h : env[i]? = some (some .stm)) : ssetV i 2 env (.int z, some (scr, c, k)) = some (.nx env, some (scr, c, z)) := by
  unfold ssetV; dsimp only; rw [h]; rfl
theorem idx_s0 {scr : List Int} {c k : Int} : idxS (some (scr, c, k)) .stm (.int 0) = some (.lst (scr.map .int)) := rfl
theorem idx_s1 {scr : List Int} {c k : Int} : idxS (some (scr, c, k)) .stm (.int 1) = some (.int c) := rfl
theorem idx_s2 {scr : List Int} {c k : Int} : idxS (some (scr, c, k)) .stm (.int 2) = some (.int k) := rfl
def NextOk (φ : Fn) : Prop := ∀ S many, SOk S → 0 < many → many < 1073741824 → ∃ d S', φ [.stm, .int many] S = some (.ret (.int d), S') ∧ 0 ≤ d ∧ d < many ∧ SOk S'
theorem pow18 : binV .pow (.int 10) (.int 18) = some (.int (10 ^ 18)) := rfl
theorem mul_c1 {i : Int} : binV .mul (.int i) (.int 48271) = some (.int (i * 48271)) := by rw [mul_int, show sml 48271 = true by decide, Bool.or_true]; rfl
theorem mul_c2 {i : Int} : binV .mul (.int i) (.int 69621) = some (.int (i * 69621)) := by rw [mul_int, show sml 69621 = true by decide, Bool.or_true]; rfl
theorem mul_c3 {i : Int} : binV .mul (.int i) (.int 16807) = some (.int (i * 16807)) := by rw [mul_int, show sml 16807 = true by decide, Bool.or_true]; rfl
theorem mul_c4 {i : Int} : binV .mul (.int i) (.int 65537) = some (.int (i * 65537)) := by rw [mul_int, show sml 65537 = true by decide, Bool.or_true]; rfl
theorem mod_c {i : Int} : binV .mod (.int i) (.int 2147483647) = some (.int (i % 2147483647)) := by rw [mod_int, if_pos (by decide)]
theorem next_ok {T : Tbl} : NextOk (evF T 5 P.c__law_next) := by
  rintro S many ⟨scr, c, k, rfl, hk⟩ h1 h2
  have m1 : ∀ i : Int, binV .mod (.int i) (.int many) = some (.int (i % many)) := fun i => by rw [mod_int, if_pos (decide_eq_true h1)]
  have m2 : ∀ i : Int, binV .fdiv (.int i) (.int many) = some (.int (i / many)) := fun i => by rw [fdiv_int, if_pos (by rw [decide_eq_true h1, decide_eq_true h2]; rfl)]
  have d1 : ∀ i : Int, 0 ≤ i % many ∧ i % many < many := fun i => ⟨Int.emod_nonneg _ (by omega), Int.emod_lt_of_pos _ h1⟩
  unfold P.c__law_next
  have k' : 0 ≤ k + 1 := by omega
  by_cases hc : c = 0
  · subst hc
    by_cases hl : k < ((scr.map PV.int).length : Int)
    · obtain ⟨z, hz⟩ : ∃ z, atI (scr.map PV.int) k = some (.int z) := by
        unfold atI ixN
        rw [if_pos hk, if_pos hl]
        obtain ⟨z, hz⟩ : ∃ z, scr[k.toNat]? = some z := ⟨_, List.getElem?_eq_getElem (by rw [List.length_map] at hl; omega)⟩
        refine ⟨z, ?_⟩
        show (scr.map PV.int)[k.toNat]? = _
        rw [List.getElem?_map, hz]; rfl
      by_cases hb : (if z < 0 then -z else z) < 10 ^ 18
      · simp only [evF_end, end_nx, end_rt, FU, e_non, e_bl, e_int, e_str, e_ty, e_var, getV_some, e_glo, e_tup, e_lst, e_bin, e_neg, negV_int, e_not, e_and, e_or, andV_bl, orV_bl, and_pure, or_pure, e_cmp, e_chain, e_ite, e_idx, e_sli, e_gcd, e_sset, gcdV_int, e_call, callR_ret, e_bi, e_comp, l_nil, l_cons, s_nil, s_cons, then_nx, then_rt, turn_eq, ife_t, ife_f, ifeG_eq, c_asg, c_ret, c_retO, c_exp, c_ife, c_for, c_asgO, c_app, c_sset, g0, gS, st0, stS, thaw_tup, thaw_lst, thaw_own, thaw_int, thaw_bl, thaw_str, thaw_non, thaw_stm, own_tup, own_lst, own_own, own_int, own_bl, own_str, own_non, own_ty, own_stm, tru_bl, tru_int, seq_tup, seq_lst, seq_own, lst_lst, lst_own, add_int, sub_int, eq_int, ne_int, lt_int', le_int', gt_int', ge_int', ne_bl, eq_bl, idx_tup, idx_lst, idx_own, len_1, all_1, any_1, sum_1, tuple_1, list_1, sorted_1, int_1, abs_1, type_1, bind_nm, bind_tp, bind_ns, bind_tpl, min1_1, max1_1, mind_1, min2_1, max2_1, it_enum, enumB_lst, c_par, it_seq, it_rng1, it_rng2, rngA_int, rngB_int, it_zip, zip_tup, zip_lst, par_none, par_some, parB_int, sli_tup, sli_lst, step_none, step_some, wipe_nil, wipe_cons, List.map_cons, List.map_nil, List.length_cons, len_nil, List.all_cons, List.all_nil, List.replicate, List.cons_append, List.nil_append, List.append_nil, List.zip_cons_cons, List.zip_nil_right, List.foldl_cons, List.foldl_nil, eq_self, Option.bind_some, Option.map_some, Bool.not_false, Bool.not_true, Bool.true_and, Bool.and_true, Bool.false_and, Bool.and_false, Bool.or_true, Bool.true_or, Bool.or_false, Bool.false_or, if_true, Bool.false_eq_true, if_false, Nat.sub_self, Nat.reduceAdd, Nat.reduceSub, Nat.reduceEqDiff, ite_true, ite_false, Nat.reduceLeDiff, idx_s0, idx_s1, idx_s2, decide_true, decide_eq_true hl, hz, decide_eq_true hb, pow18, mul_c1, mul_c2, mul_c3, mul_c4, mod_c, m1, m2, sset_1, sset_2]
        exact ⟨_, _, rfl, (d1 _).1, (d1 _).2, _, _, _, rfl, k'⟩
      · simp only [evF_end, end_nx, end_rt, FU, e_non, e_bl, e_int, e_str, e_ty, e_var, getV_some, e_glo, e_tup, e_lst, e_bin, e_neg, negV_int, e_not, e_and, e_or, andV_bl, orV_bl, and_pure, or_pure, e_cmp, e_chain, e_ite, e_idx, e_sli, e_gcd, e_sset, gcdV_int, e_call, callR_ret, e_bi, e_comp, l_nil, l_cons, s_nil, s_cons, then_nx, then_rt, turn_eq, ife_t, ife_f, ifeG_eq, c_asg, c_ret, c_retO, c_exp, c_ife, c_for, c_asgO, c_app, c_sset, g0, gS, st0, stS, thaw_tup, thaw_lst, thaw_own, thaw_int, thaw_bl, thaw_str, thaw_non, thaw_stm, own_tup, own_lst, own_own, own_int, own_bl, own_str, own_non, own_ty, own_stm, tru_bl, tru_int, seq_tup, seq_lst, seq_own, lst_lst, lst_own, add_int, sub_int, eq_int, ne_int, lt_int', le_int', gt_int', ge_int', ne_bl, eq_bl, idx_tup, idx_lst, idx_own, len_1, all_1, any_1, sum_1, tuple_1, list_1, sorted_1, int_1, abs_1, type_1, bind_nm, bind_tp, bind_ns, bind_tpl, min1_1, max1_1, mind_1, min2_1, max2_1, it_enum, enumB_lst, c_par, it_seq, it_rng1, it_rng2, rngA_int, rngB_int, it_zip, zip_tup, zip_lst, par_none, par_some, parB_int, sli_tup, sli_lst, step_none, step_some, wipe_nil, wipe_cons, List.map_cons, List.map_nil, List.length_cons, len_nil, List.all_cons, List.all_nil, List.replicate, List.cons_append, List.nil_append, List.append_nil, List.zip_cons_cons, List.zip_nil_right, List.foldl_cons, List.foldl_nil, eq_self, Option.bind_some, Option.map_some, Bool.not_false, Bool.not_true, Bool.true_and, Bool.and_true, Bool.false_and, Bool.and_false, Bool.or_true, Bool.true_or, Bool.or_false, Bool.false_or, if_true, Bool.false_eq_true, if_false, Nat.sub_self, Nat.reduceAdd, Nat.reduceSub, Nat.reduceEqDiff, ite_true, ite_false, Nat.reduceLeDiff, idx_s0, idx_s1, idx_s2, decide_true, decide_eq_true hl, hz, decide_eq_false hb, pow18, mul_c1, mul_c2, mul_c3, mul_c4, mod_c, m1, m2, sset_1, sset_2]
        exact ⟨_, _, rfl, (d1 _).1, (d1 _).2, _, _, _, rfl, k'⟩
    · by_cases hb : (7 + k) < 10 ^ 18
      · simp only [evF_end, end_nx, end_rt, FU, e_non, e_bl, e_int, e_str, e_ty, e_var, getV_some, e_glo, e_tup, e_lst, e_bin, e_neg, negV_int, e_not, e_and, e_or, andV_bl, orV_bl, and_pure, or_pure, e_cmp, e_chain, e_ite, e_idx, e_sli, e_gcd, e_sset, gcdV_int, e_call, callR_ret, e_bi, e_comp, l_nil, l_cons, s_nil, s_cons, then_nx, then_rt, turn_eq, ife_t, ife_f, ifeG_eq, c_asg, c_ret, c_retO, c_exp, c_ife, c_for, c_asgO, c_app, c_sset, g0, gS, st0, stS, thaw_tup, thaw_lst, thaw_own, thaw_int, thaw_bl, thaw_str, thaw_non, thaw_stm, own_tup, own_lst, own_own, own_int, own_bl, own_str, own_non, own_ty, own_stm, tru_bl, tru_int, seq_tup, seq_lst, seq_own, lst_lst, lst_own, add_int, sub_int, eq_int, ne_int, lt_int', le_int', gt_int', ge_int', ne_bl, eq_bl, idx_tup, idx_lst, idx_own, len_1, all_1, any_1, sum_1, tuple_1, list_1, sorted_1, int_1, abs_1, type_1, bind_nm, bind_tp, bind_ns, bind_tpl, min1_1, max1_1, mind_1, min2_1, max2_1, it_enum, enumB_lst, c_par, it_seq, it_rng1, it_rng2, rngA_int, rngB_int, it_zip, zip_tup, zip_lst, par_none, par_some, parB_int, sli_tup, sli_lst, step_none, step_some, wipe_nil, wipe_cons, List.map_cons, List.map_nil, List.length_cons, len_nil, List.all_cons, List.all_nil, List.replicate, List.cons_append, List.nil_append, List.append_nil, List.zip_cons_cons, List.zip_nil_right, List.foldl_cons, List.foldl_nil, eq_self, Option.bind_some, Option.map_some, Bool.not_false, Bool.not_true, Bool.true_and, Bool.and_true, Bool.false_and, Bool.and_false, Bool.or_true, Bool.true_or, Bool.or_false, Bool.false_or, if_true, Bool.false_eq_true, if_false, Nat.sub_self, Nat.reduceAdd, Nat.reduceSub, Nat.reduceEqDiff, ite_true, ite_false, Nat.reduceLeDiff, idx_s0, idx_s1, idx_s2, decide_true, decide_eq_false hl, decide_eq_true hb, pow18, mul_c1, mul_c2, mul_c3, mul_c4, mod_c, m1, m2, sset_1, sset_2]
        exact ⟨_, _, rfl, (d1 _).1, (d1 _).2, _, _, _, rfl, k'⟩
      · simp only [evF_end, end_nx, end_rt, FU, e_non, e_bl, e_int, e_str, e_ty, e_var, getV_some, e_glo, e_tup, e_lst, e_bin, e_neg, negV_int, e_not, e_and, e_or, andV_bl, orV_bl, and_pure, or_pure, e_cmp, e_chain, e_ite, e_idx, e_sli, e_gcd, e_sset, gcdV_int, e_call, callR_ret, e_bi, e_comp, l_nil, l_cons, s_nil, s_cons, then_nx, then_rt, turn_eq, ife_t, ife_f, ifeG_eq, c_asg, c_ret, c_retO, c_exp, c_ife, c_for, c_asgO, c_app, c_sset, g0, gS, st0, stS, thaw_tup, thaw_lst, thaw_own, thaw_int, thaw_bl, thaw_str, thaw_non, thaw_stm, own_tup, own_lst, own_own, own_int, own_bl, own_str, own_non, own_ty, own_stm, tru_bl, tru_int, seq_tup, seq_lst, seq_own, lst_lst, lst_own, add_int, sub_int, eq_int, ne_int, lt_int', le_int', gt_int', ge_int', ne_bl, eq_bl, idx_tup, idx_lst, idx_own, len_1, all_1, any_1, sum_1, tuple_1, list_1, sorted_1, int_1, abs_1, type_1, bind_nm, bind_tp, bind_ns, bind_tpl, min1_1, max1_1, mind_1, min2_1, max2_1, it_enum, enumB_lst, c_par, it_seq, it_rng1, it_rng2, rngA_int, rngB_int, it_zip, zip_tup, zip_lst, par_none, par_some, parB_int, sli_tup, sli_lst, step_none, step_some, wipe_nil, wipe_cons, List.map_cons, List.map_nil, List.length_cons, len_nil, List.all_cons, List.all_nil, List.replicate, List.cons_append, List.nil_append, List.append_nil, List.zip_cons_cons, List.zip_nil_right, List.foldl_cons, List.foldl_nil, eq_self, Option.bind_some, Option.map_some, Bool.not_false, Bool.not_true, Bool.true_and, Bool.and_true, Bool.false_and, Bool.and_false, Bool.or_true, Bool.true_or, Bool.or_false, Bool.false_or, if_true, Bool.false_eq_true, if_false, Nat.sub_self, Nat.reduceAdd, Nat.reduceSub, Nat.reduceEqDiff, ite_true, ite_false, Nat.reduceLeDiff, idx_s0, idx_s1, idx_s2, decide_true, decide_eq_false hl, decide_eq_false hb, pow18, mul_c1, mul_c2, mul_c3, mul_c4, mod_c, m1, m2, sset_1, sset_2]
        exact ⟨_, _, rfl, (d1 _).1, (d1 _).2, _, _, _, rfl, k'⟩
  · simp only [evF_end, end_nx, end_rt, FU, e_non, e_bl, e_int, e_str, e_ty, e_var, getV_some, e_glo, e_tup, e_lst, e_bin, e_neg, negV_int, e_not, e_and, e_or, andV_bl, orV_bl, and_pure, or_pure, e_cmp, e_chain, e_ite, e_idx, e_sli, e_gcd, e_sset, gcdV_int, e_call, callR_ret, e_bi, e_comp, l_nil, l_cons, s_nil, s_cons, then_nx, then_rt, turn_eq, ife_t, ife_f, ifeG_eq, c_asg, c_ret, c_retO, c_exp, c_ife, c_for, c_asgO, c_app, c_sset, g0, gS, st0, stS, thaw_tup, thaw_lst, thaw_own, thaw_int, thaw_bl, thaw_str, thaw_non, thaw_stm, own_tup, own_lst, own_own, own_int, own_bl, own_str, own_non, own_ty, own_stm, tru_bl, tru_int, seq_tup, seq_lst, seq_own, lst_lst, lst_own, add_int, sub_int, eq_int, ne_int, lt_int', le_int', gt_int', ge_int', ne_bl, eq_bl, idx_tup, idx_lst, idx_own, len_1, all_1, any_1, sum_1, tuple_1, list_1, sorted_1, int_1, abs_1, type_1, bind_nm, bind_tp, bind_ns, bind_tpl, min1_1, max1_1, mind_1, min2_1, max2_1, it_enum, enumB_lst, c_par, it_seq, it_rng1, it_rng2, rngA_int, rngB_int, it_zip, zip_tup, zip_lst, par_none, par_some, parB_int, sli_tup, sli_lst, step_none, step_some, wipe_nil, wipe_cons, List.map_cons, List.map_nil, List.length_cons, len_nil, List.all_cons, List.all_nil, List.replicate, List.cons_append, List.nil_append, List.append_nil, List.zip_cons_cons, List.zip_nil_right, List.foldl_cons, List.foldl_nil, eq_self, Option.bind_some, Option.map_some, Bool.not_false, Bool.not_true, Bool.true_and, Bool.and_true, Bool.false_and, Bool.and_false, Bool.or_true, Bool.true_or, Bool.or_false, Bool.false_or, if_true, Bool.false_eq_true, if_false, Nat.sub_self, Nat.reduceAdd, Nat.reduceSub, Nat.reduceEqDiff, ite_true, ite_false, Nat.reduceLeDiff, idx_s0, idx_s1, idx_s2, decide_eq_false hc, m1, m2, sset_1, sset_2]
    exact ⟨_, _, rfl, (d1 _).1, (d1 _).2, _, _, _, rfl, hk⟩
end Ws

/-! Ws24: loops; the links that are drawn. -/
namespace Ws
open PySem PySem.Spec L2

theorem rangeV_get {a b : Int} {i : Nat} {x : PV} (h : (rangeV a b)[i]? = some x) : x = .int (a + i) ∧ a + i < b := by
  unfold rangeV at h
  rw [List.getElem?_map] at h
  by_cases hi : i < (b - a).toNat
  · rw [List.getElem?_range hi] at h
    simp only [Option.map_some, Option.some.injEq] at h
    exact ⟨h.symm, by omega⟩
  · rw [List.getElem?_eq_none (by rw [List.length_range]; omega)] at h
    cases h
theorem rangeV_len {a b : Int} : (rangeV a b).length = (b - a).toNat := by unfold rangeV; rw [List.length_map, List.length_range]
theorem inR_small {i : Int} (h : -1000000 ≤ i) (h' : i ≤ 1000000) : inR i = true := by unfold inR; rw [decide_eq_true (by omega), decide_eq_true (by omega)]; rfl
theorem asgO_ok {l : List PV} {i : Nat} {env : Env} {S S' : Strm} (h : i < env.length) (h' : (S.isSome || S'.isNone) = true) : asgOV i env S (.lst l, S') = some (.nx (env.set i (some (.own l))), S') := by
  unfold asgOV; dsimp only; rw [h', decide_eq_true h]; rfl
theorem isO {S S' : Strm} (h : SOk S) : (S.isSome || S'.isNone) = true := by rw [h.some]; rfl
end Ws

/-! Ws25: all fences, in order. -/
namespace Ws
open PySem PySem.Spec L2
/-- the fences of a net of p points, in order -/
def fences : Int → List (List Int)
  | 2 => [[1]]
  | 3 => [[1], [1, 2], [2]]
  | 4 => [[1], [1, 2], [1, 2, 3], [1, 3], [2], [2, 3], [3]]
  | 5 => [[1], [1, 2], [1, 2, 3], [1, 2, 3, 4], [1, 2, 4], [1, 3], [1, 3, 4], [1, 4], [2], [2, 3], [2, 3, 4], [2, 4], [3], [3, 4], [4]]
  | 6 => [[1], [1, 2], [1, 2, 3], [1, 2, 3, 4], [1, 2, 3, 4, 5], [1, 2, 3, 5], [1, 2, 4], [1, 2, 4, 5], [1, 2, 5], [1, 3], [1, 3, 4], [1, 3, 4, 5], [1, 3, 5], [1, 4], [1, 4, 5], [1, 5], [2], [2, 3], [2, 3, 4], [2, 3, 4, 5], [2, 3, 5], [2, 4], [2, 4, 5], [2, 5], [3], [3, 4], [3, 4, 5], [3, 5], [4], [4, 5], [5]]
  | 7 => [[1], [1, 2], [1, 2, 3], [1, 2, 3, 4], [1, 2, 3, 4, 5], [1, 2, 3, 4, 5, 6], [1, 2, 3, 4, 6], [1, 2, 3, 5], [1, 2, 3, 5, 6], [1, 2, 3, 6], [1, 2, 4], [1, 2, 4, 5], [1, 2, 4, 5, 6], [1, 2, 4, 6], [1, 2, 5], [1, 2, 5, 6], [1, 2, 6], [1, 3], [1, 3, 4], [1, 3, 4, 5], [1, 3, 4, 5, 6], [1, 3, 4, 6], [1, 3, 5], [1, 3, 5, 6], [1, 3, 6], [1, 4], [1, 4, 5], [1, 4, 5, 6], [1, 4, 6], [1, 5], [1, 5, 6], [1, 6], [2], [2, 3], [2, 3, 4], [2, 3, 4, 5], [2, 3, 4, 5, 6], [2, 3, 4, 6], [2, 3, 5], [2, 3, 5, 6], [2, 3, 6], [2, 4], [2, 4, 5], [2, 4, 5, 6], [2, 4, 6], [2, 5], [2, 5, 6], [2, 6], [3], [3, 4], [3, 4, 5], [3, 4, 5, 6], [3, 4, 6], [3, 5], [3, 5, 6], [3, 6], [4], [4, 5], [4, 5, 6], [4, 6], [5], [5, 6], [6]]
  | _ => []
end Ws

/-! Ws26: sets of points: filters, sorting, the empty one. -/
namespace Ws
open PySem PySem.Spec L2

theorem rangeV_ints {b : Int} : rangeV 0 b = ((List.range b.toNat).map fun k : Nat => (k : Int)).map PV.int := by
  unfold rangeV
  rw [List.map_map, Int.sub_zero]
  refine List.map_congr_left fun k _ => ?_
  show PV.int (0 + k) = PV.int k
  rw [Int.zero_add]
theorem ints_pds : ∀ {l : List Int}, PV.pds (l.map PV.int) = some (l.map PyData.int)
  | [] => rfl
  | x :: l => by rw [List.map_cons, PV.pds, ints_pds]; rfl
theorem isort_map {α β : Type} {r : α → α → Bool} {s : β → β → Bool} (f : α → β) (h : ∀ a b, r a b = s (f a) (f b)) : ∀ l : List α, (isort r l).map f = isort s (l.map f)
  | [] => rfl
  | x :: l => by
    have q : ∀ ys : List α, (ins r x ys).map f = ins s (f x) (ys.map f) := by
      intro ys
      induction ys with
      | nil => rfl
      | cons y ys ih =>
        rw [List.map_cons, ins, ins, h x y]
        split
        · rfl
        · rw [List.map_cons, ih]
    rw [isort, q, isort_map f h l]; rfl
end Ws

/-! Ws27: a def that calls itself, so deep as is said. -/
namespace Ws
open PySem PySem.Spec PyProof.Rows L2

/-- the def f, d calls deep -/
def recT (T : Tbl) (f : Str) (np n : Nat) (cs : List CS) : Nat → Tbl
  | 0 => T.add f np fun _ _ => none
  | d + 1 => T.add f np (evF (recT T f np n cs d) n cs)
def recF (T : Tbl) (f : Str) (np n : Nat) (cs : List CS) : Nat → Fn
  | 0 => fun _ _ => none
  | d + 1 => evF (recT T f np n cs d) n cs
section
variable {P : Program} {w : World} {K : PySem.W.Frag} {mg : Str → Option Value} {base : Heap}
theorem none_ok {N ps : List Str} {x qual : Str} {st : Stmt} {f : Addr} {fd : FuncData} {k : Nat} (F : Fun K x qual st f fd) (S : FnScope N ps (defScope st)) : FnOk P w K mg base CX0 (k + 1) f fd ps (spF K ps.length fun _ _ => none) := by
  refine F.ok S (fun vs H Q E h => ?_) (fun cdv A outer s H vs Q E hr h => ?_)
  · obtain ⟨_, _, _, _, _, _, _, _, _, _, e, _⟩ := h
    cases e
  · obtain ⟨_, _, _, _, _, _, _, _, _, _, e, _⟩ := h
    cases e
theorem rec_ok {T : Tbl} {bts N ps : List Str} {k m : Nat} {x qual : Str} {st : Stmt} {f : Addr} {fd : FuncData} {cs : List CS} (t : TOk P w K mg base T bts k) (F : Fun K x qual st f fd) (S : FnScope N ps (defScope st)) (hc : chkB bts N (defScope st) m (defBody st) cs = true)
    (hm : mg x = some (.ref f)) (hk : PySem.W.keepIn K (.ref f) = true) (hb : Binds K fd ps []) : ∀ d, TOk P w K mg base (recT T x ps.length N.length cs d) bts (k + 1 + d)
  | 0 => (t.le (Nat.le_succ k)).add rfl hm hk hb (none_ok F S)
  | d + 1 => (t.le (by omega)).add rfl hm hk hb (def_ok (rec_ok t F S hc hm hk hb d) F S hc)
end
end Ws

/-! Ws28: _law_equal on truth values and lists of them. -/
namespace Ws
open PySem PySem.Spec L2

theorem isN_bl {b : Bool} : cmpV .isN (.bl b) .non = some false := rfl
theorem isN_lst {b : List PV} : cmpV .isN (.lst b) .non = some false := rfl
theorem isN_tup {b : List PV} : cmpV .isN (.tup b) .non = some false := rfl
theorem isN_int {b : Int} : cmpV .isN (.int b) .non = some false := rfl
theorem isN_str {b : Str} : cmpV .isN (.str b) .non = some false := rfl
theorem kb_bb : kitB "bool" "bool" = some true := by decide +kernel
theorem kb_lb : kitB "list" "bool" = some false := by decide +kernel
theorem kb_li : kitB "list" "int" = some false := by decide +kernel
theorem kb_ls : kitB "list" "str" = some false := by decide +kernel
theorem kb_lt : kitB "list" "tuple" = some false := by decide +kernel
theorem kb_ll : kitB "list" "list" = some true := by decide +kernel
theorem ty_bl {b : Bool} : tyName (.bl b) = some "bool" := rfl
theorem ty_lst {b : List PV} : tyName (.lst b) = some "list" := rfl
theorem isi_bb {a : Bool} : biV .isi [.bl a, .ty "bool"] = some (.bl true) := by rw [isi_2, ty_bl, Option.bind_some, kb_bb]; rfl
theorem isi_lb {a : List PV} : biV .isi [.lst a, .ty "bool"] = some (.bl false) := by rw [isi_2, ty_lst, Option.bind_some, kb_lb]; rfl
theorem isi_li {a : List PV} : biV .isi [.lst a, .ty "int"] = some (.bl false) := by rw [isi_2, ty_lst, Option.bind_some, kb_li]; rfl
theorem isi_ls {a : List PV} : biV .isi [.lst a, .ty "str"] = some (.bl false) := by rw [isi_2, ty_lst, Option.bind_some, kb_ls]; rfl
theorem isi_lt {a : List PV} : biV .isi [.lst a, .ty "tuple"] = some (.bl false) := by rw [isi_2, ty_lst, Option.bind_some, kb_lt]; rfl
theorem isi_ll {a : List PV} : biV .isi [.lst a, .ty "list"] = some (.bl true) := by rw [isi_2, ty_lst, Option.bind_some, kb_ll]; rfl
def EqBlOk (φ : Fn) : Prop := ∀ a b S, φ [.bl a, .bl b] S = some (.ret (.bl (a == b)), S)
theorem eqBl_ok {T : Tbl} : EqBlOk (evF T 3 P.c__law_equal) := by
  intro a b S
  unfold P.c__law_equal
  simp only [evF_end, end_nx, end_rt, FU, e_non, e_bl, e_int, e_str, e_ty, e_var, getV_some, e_glo, e_tup, e_lst, e_bin, e_neg, negV_int, e_not, e_and, e_or, andV_bl, orV_bl, and_pure, or_pure, e_cmp, e_chain, e_ite, e_idx, e_sli, e_gcd, e_sset, gcdV_int, e_call, callR_ret, e_bi, e_comp, l_nil, l_cons, s_nil, s_cons, then_nx, then_rt, turn_eq, ife_t, ife_f, ifeG_eq, c_asg, c_ret, c_retO, c_exp, c_ife, c_for, c_asgO, c_app, c_sset, g0, gS, st0, stS, thaw_tup, thaw_lst, thaw_own, thaw_int, thaw_bl, thaw_str, thaw_non, thaw_stm, own_tup, own_lst, own_own, own_int, own_bl, own_str, own_non, own_ty, own_stm, tru_bl, tru_int, seq_tup, seq_lst, seq_own, lst_lst, lst_own, add_int, sub_int, eq_int, ne_int, lt_int', le_int', gt_int', ge_int', ne_bl, eq_bl, idx_tup, idx_lst, idx_own, len_1, all_1, any_1, sum_1, tuple_1, list_1, sorted_1, int_1, abs_1, type_1, bind_nm, bind_tp, bind_ns, bind_tpl, min1_1, max1_1, mind_1, min2_1, max2_1, it_enum, enumB_lst, c_par, it_seq, it_rng1, it_rng2, rngA_int, rngB_int, it_zip, zip_tup, zip_lst, par_none, par_some, parB_int, sli_tup, sli_lst, step_none, step_some, wipe_nil, wipe_cons, List.map_cons, List.map_nil, List.length_cons, len_nil, List.all_cons, List.all_nil, List.replicate, List.cons_append, List.nil_append, List.append_nil, List.zip_cons_cons, List.zip_nil_right, List.foldl_cons, List.foldl_nil, eq_self, Option.bind_some, Option.map_some, Bool.not_false, Bool.not_true, Bool.true_and, Bool.and_true, Bool.false_and, Bool.and_false, Bool.or_true, Bool.true_or, Bool.or_false, Bool.false_or, if_true, Bool.false_eq_true, if_false, Nat.sub_self, Nat.reduceAdd, Nat.reduceSub, Nat.reduceEqDiff, ite_true, ite_false, Nat.reduceLeDiff, isN_bl, isi_bb]
theorem eq_front {T : Tbl} {A B : List PV} {r : Option (Fl × Strm)} {S : Strm} {rest : List CS} (h : seqL (fun c env S => evS T 60 c env S) rest [some (.lst A), some (.lst B), none] S = r) :
    seqL (fun c env S => evS T 60 c env S) (.ife (.cmp .isN (.var 1) .non) [.ret (.cmp .isN (.var 0) .non)] [] ::
  .ife (.bi .isi [(.var 1), (.ty "bool")]) [.ret (.and (.bi .isi [(.var 0), (.ty "bool")]) (.cmp .eq (.var 0) (.var 1)))] [] ::
  .ife (.bi .isi [(.var 1), (.ty "int")]) [.ret (.and (.call "_law_is_integer" [(.var 0)]) (.cmp .eq (.var 0) (.var 1)))] [] ::
  .ife (.bi .isi [(.var 1), (.ty "str")]) [.ret (.and (.bi .isi [(.var 0), (.ty "str")]) (.cmp .eq (.var 0) (.var 1)))] [] ::
  .ife (.and (.bi .isi [(.var 1), (.ty "tuple")]) (.not (.bi .isi [(.var 0), (.ty "tuple")]))) [.ret (.bl false)] [] ::
  .ife (.and (.bi .isi [(.var 1), (.ty "list")]) (.not (.bi .isi [(.var 0), (.ty "list")]))) [.ret (.bl false)] [] :: rest) [some (.lst A), some (.lst B), none] S = r := by
  simp only [evF_end, end_nx, end_rt, FU, e_non, e_bl, e_int, e_str, e_ty, e_var, getV_some, e_glo, e_tup, e_lst, e_bin, e_neg, negV_int, e_not, e_and, e_or, andV_bl, orV_bl, and_pure, or_pure, e_cmp, e_chain, e_ite, e_idx, e_sli, e_gcd, e_sset, gcdV_int, e_call, callR_ret, e_bi, e_comp, l_nil, l_cons, s_nil, s_cons, then_nx, then_rt, turn_eq, ife_t, ife_f, ifeG_eq, c_asg, c_ret, c_retO, c_exp, c_ife, c_for, c_asgO, c_app, c_sset, g0, gS, st0, stS, thaw_tup, thaw_lst, thaw_own, thaw_int, thaw_bl, thaw_str, thaw_non, thaw_stm, own_tup, own_lst, own_own, own_int, own_bl, own_str, own_non, own_ty, own_stm, tru_bl, tru_int, seq_tup, seq_lst, seq_own, lst_lst, lst_own, add_int, sub_int, eq_int, ne_int, lt_int', le_int', gt_int', ge_int', ne_bl, eq_bl, idx_tup, idx_lst, idx_own, len_1, all_1, any_1, sum_1, tuple_1, list_1, sorted_1, int_1, abs_1, type_1, bind_nm, bind_tp, bind_ns, bind_tpl, min1_1, max1_1, mind_1, min2_1, max2_1, it_enum, enumB_lst, c_par, it_seq, it_rng1, it_rng2, rngA_int, rngB_int, it_zip, zip_tup, zip_lst, par_none, par_some, parB_int, sli_tup, sli_lst, step_none, step_some, wipe_nil, wipe_cons, List.map_cons, List.map_nil, List.length_cons, len_nil, List.all_cons, List.all_nil, List.replicate, List.cons_append, List.nil_append, List.append_nil, List.zip_cons_cons, List.zip_nil_right, List.foldl_cons, List.foldl_nil, eq_self, Option.bind_some, Option.map_some, Bool.not_false, Bool.not_true, Bool.true_and, Bool.and_true, Bool.false_and, Bool.and_false, Bool.or_true, Bool.true_or, Bool.or_false, Bool.false_or, if_true, Bool.false_eq_true, if_false, Nat.sub_self, Nat.reduceAdd, Nat.reduceSub, Nat.reduceEqDiff, ite_true, ite_false, Nat.reduceLeDiff, isN_lst, isi_lb, isi_li, isi_ls, isi_lt, isi_ll, h]
end Ws

/-! Ws29: _law_equal(x, x) is True. -/
namespace Ws
open PySem PySem.Spec L2

def IsIntOk (φ : Fn) : Prop := ∀ i S, φ [.int i] S = some (.ret (.bl true), S)
theorem isInt_ok {T : Tbl} : IsIntOk (evF T 1 P.c__law_is_integer) := by
  intro i S
  unfold P.c__law_is_integer
  have h1 : biV .isi [.int i, .ty "int"] = some (.bl true) := by rw [isi_2]; show (kitB "int" "int").map PV.bl = _; rw [show kitB "int" "int" = some true by decide +kernel]; rfl
  have h2 : biV .isi [.int i, .ty "bool"] = some (.bl false) := by rw [isi_2]; show (kitB "int" "bool").map PV.bl = _; rw [show kitB "int" "bool" = some false by decide +kernel]; rfl
  simp only [evF_end, end_nx, end_rt, FU, e_non, e_bl, e_int, e_str, e_ty, e_var, getV_some, e_glo, e_tup, e_lst, e_bin, e_neg, negV_int, e_not, e_and, e_or, andV_bl, orV_bl, and_pure, or_pure, e_cmp, e_chain, e_ite, e_idx, e_sli, e_gcd, e_sset, gcdV_int, e_call, callR_ret, e_bi, e_comp, l_nil, l_cons, s_nil, s_cons, then_nx, then_rt, turn_eq, ife_t, ife_f, ifeG_eq, c_asg, c_ret, c_retO, c_exp, c_ife, c_for, c_asgO, c_app, c_sset, g0, gS, st0, stS, thaw_tup, thaw_lst, thaw_own, thaw_int, thaw_bl, thaw_str, thaw_non, thaw_stm, own_tup, own_lst, own_own, own_int, own_bl, own_str, own_non, own_ty, own_stm, tru_bl, tru_int, seq_tup, seq_lst, seq_own, lst_lst, lst_own, add_int, sub_int, eq_int, ne_int, lt_int', le_int', gt_int', ge_int', ne_bl, eq_bl, idx_tup, idx_lst, idx_own, len_1, all_1, any_1, sum_1, tuple_1, list_1, sorted_1, int_1, abs_1, type_1, bind_nm, bind_tp, bind_ns, bind_tpl, min1_1, max1_1, mind_1, min2_1, max2_1, it_enum, enumB_lst, c_par, it_seq, it_rng1, it_rng2, rngA_int, rngB_int, it_zip, zip_tup, zip_lst, par_none, par_some, parB_int, sli_tup, sli_lst, step_none, step_some, wipe_nil, wipe_cons, List.map_cons, List.map_nil, List.length_cons, len_nil, List.all_cons, List.all_nil, List.replicate, List.cons_append, List.nil_append, List.append_nil, List.zip_cons_cons, List.zip_nil_right, List.foldl_cons, List.foldl_nil, eq_self, Option.bind_some, Option.map_some, Bool.not_false, Bool.not_true, Bool.true_and, Bool.and_true, Bool.false_and, Bool.and_false, Bool.or_true, Bool.true_or, Bool.or_false, Bool.false_or, if_true, Bool.false_eq_true, if_false, Nat.sub_self, Nat.reduceAdd, Nat.reduceSub, Nat.reduceEqDiff, ite_true, ite_false, Nat.reduceLeDiff, h1, h2]
mutual
/-- how deep -/
def PV.dp : PV → Nat
  | .tup l => PV.dps l + 1
  | .lst l => PV.dps l + 1
  | _ => 0
def PV.dps : List PV → Nat
  | [] => 0
  | x :: xs => max (PV.dp x) (PV.dps xs)
end
mutual
/-- not too long -/
def PV.sz : PV → Bool
  | .tup l => decide (l.length ≤ 1000) && PV.szs l
  | .lst l => decide (l.length ≤ 1000) && PV.szs l
  | .str s => PyData.strOk s
  | _ => true
def PV.szs : List PV → Bool
  | [] => true
  | x :: xs => PV.sz x && PV.szs xs
end
theorem dps_le : ∀ {l : List PV} {d : Nat}, PV.dps l ≤ d → ∀ x ∈ l, x.dp ≤ d
  | [], _, _, _, m => by simp at m
  | y :: l, d, h, x, m => by
    simp only [PV.dps] at h
    rcases List.mem_cons.mp m with rfl | m
    · omega
    · exact dps_le (by omega) x m
theorem szs_all : ∀ {l : List PV}, PV.szs l = true → ∀ x ∈ l, x.sz = true
  | [], _, _, m => by simp at m
  | y :: l, h, x, m => by
    simp only [PV.szs, Bool.and_eq_true] at h
    rcases List.mem_cons.mp m with rfl | m
    · exact h.1
    · exact szs_all h.2 x m
def EqSelfOk (d : Nat) (φ : Fn) : Prop := ∀ x S, x.pl = true → x.dp ≤ d → x.sz = true → φ [x, x] S = some (.ret (.bl true), S)
theorem isi_of {x : PV} {m n : String} {b : Bool} (h : tyName x = some m) (k : kitB m n = some b) : biV .isi [x, .ty n] = some (.bl b) := by rw [isi_2, h, Option.bind_some, k]; rfl
theorem eq_str {s : Str} (h : PyData.strOk s = true) : cmpV .eq (.str s) (.str s) = some true := by
  show eqD (.str s) (.str s) = _
  unfold eqD
  have e : (PV.str s).pd = some (.str s) := by simp [PV.pd]
  rw [e]
  simp [SeqAt.shaped, PyData.eqv, PyData.canLay0, PyData.depth, h]
theorem eq_lastS {T : Tbl} {A : List PV} {X : PV} {j : Int} {S : Strm} (hX : X.isOwn = false) (hA : ∀ i S, idxS S X (.int i) = atI A i) (h2 : biV .len [X] = some (.int j)) (hj : j = (A.length : Int)) (hr : inR j = true) (hlen : (rangeV 0 j).length ≤ LIM) {φ : Fn} (e : T.fn "_law_equal" = some (2, φ)) (h : ∀ x ∈ A, ∀ S, φ [x, x] S = some (.ret (.bl true), S)) (hp : PV.pls A = true) :
    evE T 60 (.bi .all [(.comp (.call "_law_equal" [(.idx (.var 0) (.var 2)), (.idx (.var 1) (.var 2))]) (.nm 2) (.rng1 (.bi .len [(.var 1)])) none [("at", 2)])]) [some X, some X, none] S = some (.bl true, S) := by
  have r : itV true (fun e S => evE T 58 e [some X, some X, none] S) (.rng1 (.bi .len [(.var 1)])) S = some (rangeV 0 j, S) := by
    rw [it_rng1, e_bi, l_cons, e_var, gS, g0, getV_some, Option.bind_some, l_nil, Option.map_some, Option.bind_some, h2, Option.map_some, Option.bind_some, rngA_int, if_pos hr]
  have e1 : rangeV 0 j = (List.range A.length).map fun k : Nat => PV.int k := by rw [rangeV_ints, List.map_map, hj, Int.toNat_natCast]; rfl
  have st : ∀ k ∈ List.range A.length, stepV (fun e env S => evE T 58 e env S) (.call "_law_equal" [.idx (.var 0) (.var 2), .idx (.var 1) (.var 2)]) (.nm 2) none [some X, some X, none] (.int k) S = some (some (.bl true), S) := by
    intro k hk
    obtain ⟨p, hp'⟩ : ∃ p, A[k]? = some p := ⟨_, List.getElem?_eq_getElem (List.mem_range.mp hk)⟩
    have hi : k < A.length := List.mem_range.mp hk
    have a1 : atI A (k : Int) = some p := by
      unfold atI ixN
      rw [if_pos (by omega), if_pos (by omega)]
      show A[((k : Int)).toNat]? = _
      rw [Int.toNat_natCast]; exact hp'
    have hm := List.mem_of_getElem? hp'
    have hpl := pls_all hp p hm
    have hb := h p hm
    have ho := pl_own hpl
    have hth := pl_thaw hpl
    clear hk e1 hj r hp'
    generalize (k : Int) = z at a1 ⊢
    simp only [evF_end, end_nx, end_rt, FU, e_non, e_bl, e_int, e_str, e_ty, e_var, getV_some, e_glo, e_tup, e_lst, e_bin, e_neg, negV_int, e_not, e_and, e_or, andV_bl, orV_bl, and_pure, or_pure, e_cmp, e_chain, e_ite, e_idx, e_sli, e_gcd, e_sset, gcdV_int, e_call, callR_ret, e_bi, e_comp, l_nil, l_cons, s_nil, s_cons, then_nx, then_rt, turn_eq, ife_t, ife_f, ifeG_eq, c_asg, c_ret, c_retO, c_exp, c_ife, c_for, c_asgO, c_app, c_sset, g0, gS, st0, stS, thaw_tup, thaw_lst, thaw_own, thaw_int, thaw_bl, thaw_str, thaw_non, thaw_stm, own_tup, own_lst, own_own, own_int, own_bl, own_str, own_non, own_ty, own_stm, tru_bl, tru_int, seq_tup, seq_lst, seq_own, lst_lst, lst_own, add_int, sub_int, eq_int, ne_int, lt_int', le_int', gt_int', ge_int', ne_bl, eq_bl, idx_tup, idx_lst, idx_own, len_1, all_1, any_1, sum_1, tuple_1, list_1, sorted_1, int_1, abs_1, type_1, bind_nm, bind_tp, bind_ns, bind_tpl, min1_1, max1_1, mind_1, min2_1, max2_1, it_enum, enumB_lst, c_par, it_seq, it_rng1, it_rng2, rngA_int, rngB_int, it_zip, zip_tup, zip_lst, par_none, par_some, parB_int, sli_tup, sli_lst, step_none, step_some, wipe_nil, wipe_cons, List.map_cons, List.map_nil, List.length_cons, len_nil, List.all_cons, List.all_nil, List.replicate, List.cons_append, List.nil_append, List.append_nil, List.zip_cons_cons, List.zip_nil_right, List.foldl_cons, List.foldl_nil, eq_self, Option.bind_some, Option.map_some, Bool.not_false, Bool.not_true, Bool.true_and, Bool.and_true, Bool.false_and, Bool.and_false, Bool.or_true, Bool.true_or, Bool.or_false, Bool.false_or, if_true, Bool.false_eq_true, if_false, Nat.sub_self, Nat.reduceAdd, Nat.reduceSub, Nat.reduceEqDiff, ite_true, ite_false, Nat.reduceLeDiff, hA, a1, e, hb, ho, hth]
  have w : compL (stepV (fun e env S => evE T 58 e env S) (.call "_law_equal" [.idx (.var 0) (.var 2), .idx (.var 1) (.var 2)]) (.nm 2) none (wipeE [some X, some X, none] ([(("at" : Str), 2)].map (·.2)))) (rangeV 0 j) S = some (((List.range A.length).map fun _ => true).map .bl, S) := by
    rw [e1]
    have := compL_map (f := fun k : Nat => PV.int k) (g := fun _ => some (PV.bl true)) st
    show compL (stepV (fun e env S => evE T 58 e env S) (.call "_law_equal" [.idx (.var 0) (.var 2), .idx (.var 1) (.var 2)]) (.nm 2) none [some X, some X, none]) _ S = _
    rw [this, List.filterMap_eq_map', List.map_map]; rfl
  rw [e_bi, l_cons, e_comp, r, Option.bind_some]
  dsimp only
  rw [if_pos hlen, w, Option.map_some, Option.bind_some, l_nil, Option.map_some, Option.bind_some, all_1, lst_lst, Option.bind_some, bls_map]
  simp
theorem eq_preX {T : Tbl} {X : PV} {j : Int} {b : Bool} {S : Strm} {last : CE} (h1 : biV .len [X] = some (.int j)) (h : evE T 60 last [some X, some X, none] S = some (.bl b, S)) :
    seqL (fun c env S => evS T 60 c env S) [.ife (.cmp .ne (.bi .len [(.var 0)]) (.bi .len [(.var 1)])) [.ret (.bl false)] [], .ret last] [some X, some X, none] S = some (.rt (.bl b), S) := by
  rw [s_cons, c_ife, e_cmp, e_bi, l_cons, e_var, g0, getV_some, Option.bind_some, l_nil, Option.map_some, Option.bind_some, h1, Option.map_some, Option.bind_some, e_bi, l_cons, e_var, gS, g0, getV_some, Option.bind_some, l_nil, Option.map_some, Option.bind_some, h1, Option.map_some, Option.bind_some, ne_int, decide_eq_true (rfl : j = j), Option.map_some, Option.bind_some, ifeG_eq, tru_bl, Option.bind_some, Bool.not_true, ife_f, s_nil, Option.bind_some, then_nx, s_cons, c_ret, h, Option.bind_some]
  rfl
theorem eqSelf_step {T : Tbl} {d : Nat} (Hi : ∃ φ, T.fn "_law_is_integer" = some (1, φ) ∧ IsIntOk φ) (H : ∃ φ, T.fn "_law_equal" = some (2, φ) ∧ (d = 0 ∨ ∃ d', d = d' + 1 ∧ EqSelfOk d' φ)) : EqSelfOk d (evF T 3 P.c__law_equal) := by
  intro x S hp hd hz
  obtain ⟨φ, e, h⟩ := H
  obtain ⟨φi, ei, hi⟩ := Hi
  have cont : ∀ (A : List PV), (x = .tup A ∨ x = .lst A) → evF T 3 P.c__law_equal [x, x] S = some (.ret (.bl true), S) := by
    intro A hx
    have hA : ∀ i S, idxS S x (.int i) = atI A i := by rcases hx with rfl | rfl <;> intros <;> rfl
    obtain ⟨j, hj⟩ : ∃ j : Int, (A.length : Int) = j := ⟨_, rfl⟩
    have hl : biV .len [x] = some (.int j) := by rw [← hj]; rcases hx with rfl | rfl <;> rfl
    have hpA : PV.pls A = true := by rcases hx with rfl | rfl <;> simpa [PV.pl] using hp
    have hzA : A.length ≤ 1000 ∧ PV.szs A = true := by rcases hx with rfl | rfl <;> (simp only [PV.sz, Bool.and_eq_true, decide_eq_true_eq] at hz; exact hz)
    have hdA : PV.dps A + 1 ≤ d := by rcases hx with rfl | rfl <;> simpa [PV.dp] using hd
    obtain ⟨d', hd', hh⟩ := h.resolve_left (by omega)
    have hall : ∀ y ∈ A, ∀ S, φ [y, y] S = some (.ret (.bl true), S) := fun y hy S => hh y S (pls_all hpA y hy) (by have := dps_le (d := d') (by omega) y hy; omega) (szs_all hzA.2 y hy)
    have la := eq_lastS (T := T) (A := A) (X := x) (j := j) (S := S) (pl_own hp) hA hl hj.symm (inR_small (by omega) (by omega)) (by rw [rangeV_len]; unfold LIM; omega) e hall hpA
    have pre : seqL (fun c env S => evS T 60 c env S) [.ife (.cmp .ne (.bi .len [(.var 0)]) (.bi .len [(.var 1)])) [.ret (.bl false)] [], .ret (.bi .all [(.comp (.call "_law_equal" [(.idx (.var 0) (.var 2)), (.idx (.var 1) (.var 2))]) (.nm 2) (.rng1 (.bi .len [(.var 1)])) none [("at", 2)])])] [some x, some x, none] S = some (.rt (.bl true), S) := by
      exact eq_preX hl la
    show (seqL (fun c env S => evS T 60 c env S) P.c__law_equal [some x, some x, none] S).map endV = _
    unfold P.c__law_equal
    rcases hx with rfl | rfl
    · have fin : ∀ rest, seqL (fun c env S => evS T 60 c env S) rest [some (.tup A), some (.tup A), none] S = some (.rt (.bl true), S) → seqL (fun c env S => evS T 60 c env S) (.ife (.cmp .isN (.var 1) .non) [.ret (.cmp .isN (.var 0) .non)] [] ::
  .ife (.bi .isi [(.var 1), (.ty "bool")]) [.ret (.and (.bi .isi [(.var 0), (.ty "bool")]) (.cmp .eq (.var 0) (.var 1)))] [] ::
  .ife (.bi .isi [(.var 1), (.ty "int")]) [.ret (.and (.call "_law_is_integer" [(.var 0)]) (.cmp .eq (.var 0) (.var 1)))] [] ::
  .ife (.bi .isi [(.var 1), (.ty "str")]) [.ret (.and (.bi .isi [(.var 0), (.ty "str")]) (.cmp .eq (.var 0) (.var 1)))] [] ::
  .ife (.and (.bi .isi [(.var 1), (.ty "tuple")]) (.not (.bi .isi [(.var 0), (.ty "tuple")]))) [.ret (.bl false)] [] ::
  .ife (.and (.bi .isi [(.var 1), (.ty "list")]) (.not (.bi .isi [(.var 0), (.ty "list")]))) [.ret (.bl false)] [] :: rest) [some (.tup A), some (.tup A), none] S = some (.rt (.bl true), S) := by
        intro rest hr
        simp only [evF_end, end_nx, end_rt, FU, e_non, e_bl, e_int, e_str, e_ty, e_var, getV_some, e_glo, e_tup, e_lst, e_bin, e_neg, negV_int, e_not, e_and, e_or, andV_bl, orV_bl, and_pure, or_pure, e_cmp, e_chain, e_ite, e_idx, e_sli, e_gcd, e_sset, gcdV_int, e_call, callR_ret, e_bi, e_comp, l_nil, l_cons, s_nil, s_cons, then_nx, then_rt, turn_eq, ife_t, ife_f, ifeG_eq, c_asg, c_ret, c_retO, c_exp, c_ife, c_for, c_asgO, c_app, c_sset, g0, gS, st0, stS, thaw_tup, thaw_lst, thaw_own, thaw_int, thaw_bl, thaw_str, thaw_non, thaw_stm, own_tup, own_lst, own_own, own_int, own_bl, own_str, own_non, own_ty, own_stm, tru_bl, tru_int, seq_tup, seq_lst, seq_own, lst_lst, lst_own, add_int, sub_int, eq_int, ne_int, lt_int', le_int', gt_int', ge_int', ne_bl, eq_bl, idx_tup, idx_lst, idx_own, len_1, all_1, any_1, sum_1, tuple_1, list_1, sorted_1, int_1, abs_1, type_1, bind_nm, bind_tp, bind_ns, bind_tpl, min1_1, max1_1, mind_1, min2_1, max2_1, it_enum, enumB_lst, c_par, it_seq, it_rng1, it_rng2, rngA_int, rngB_int, it_zip, zip_tup, zip_lst, par_none, par_some, parB_int, sli_tup, sli_lst, step_none, step_some, wipe_nil, wipe_cons, List.map_cons, List.map_nil, List.length_cons, len_nil, List.all_cons, List.all_nil, List.replicate, List.cons_append, List.nil_append, List.append_nil, List.zip_cons_cons, List.zip_nil_right, List.foldl_cons, List.foldl_nil, eq_self, Option.bind_some, Option.map_some, Bool.not_false, Bool.not_true, Bool.true_and, Bool.and_true, Bool.false_and, Bool.and_false, Bool.or_true, Bool.true_or, Bool.or_false, Bool.false_or, if_true, Bool.false_eq_true, if_false, Nat.sub_self, Nat.reduceAdd, Nat.reduceSub, Nat.reduceEqDiff, ite_true, ite_false, Nat.reduceLeDiff, isN_tup, isi_of (x := .tup A) (m := "tuple") (n := "bool") rfl (by decide +kernel : kitB "tuple" "bool" = some false), isi_of (x := .tup A) (m := "tuple") (n := "int") rfl (by decide +kernel : kitB "tuple" "int" = some false), isi_of (x := .tup A) (m := "tuple") (n := "str") rfl (by decide +kernel : kitB "tuple" "str" = some false), isi_of (x := .tup A) (m := "tuple") (n := "tuple") rfl (by decide +kernel : kitB "tuple" "tuple" = some true), isi_of (x := .tup A) (m := "tuple") (n := "list") rfl (by decide +kernel : kitB "tuple" "list" = some false), hr]
      rw [fin _ pre]; rfl
    · rw [eq_front pre]; rfl
  cases x with
  | non => unfold P.c__law_equal; simp only [evF_end, end_nx, end_rt, FU, e_non, e_bl, e_int, e_str, e_ty, e_var, getV_some, e_glo, e_tup, e_lst, e_bin, e_neg, negV_int, e_not, e_and, e_or, andV_bl, orV_bl, and_pure, or_pure, e_cmp, e_chain, e_ite, e_idx, e_sli, e_gcd, e_sset, gcdV_int, e_call, callR_ret, e_bi, e_comp, l_nil, l_cons, s_nil, s_cons, then_nx, then_rt, turn_eq, ife_t, ife_f, ifeG_eq, c_asg, c_ret, c_retO, c_exp, c_ife, c_for, c_asgO, c_app, c_sset, g0, gS, st0, stS, thaw_tup, thaw_lst, thaw_own, thaw_int, thaw_bl, thaw_str, thaw_non, thaw_stm, own_tup, own_lst, own_own, own_int, own_bl, own_str, own_non, own_ty, own_stm, tru_bl, tru_int, seq_tup, seq_lst, seq_own, lst_lst, lst_own, add_int, sub_int, eq_int, ne_int, lt_int', le_int', gt_int', ge_int', ne_bl, eq_bl, idx_tup, idx_lst, idx_own, len_1, all_1, any_1, sum_1, tuple_1, list_1, sorted_1, int_1, abs_1, type_1, bind_nm, bind_tp, bind_ns, bind_tpl, min1_1, max1_1, mind_1, min2_1, max2_1, it_enum, enumB_lst, c_par, it_seq, it_rng1, it_rng2, rngA_int, rngB_int, it_zip, zip_tup, zip_lst, par_none, par_some, parB_int, sli_tup, sli_lst, step_none, step_some, wipe_nil, wipe_cons, List.map_cons, List.map_nil, List.length_cons, len_nil, List.all_cons, List.all_nil, List.replicate, List.cons_append, List.nil_append, List.append_nil, List.zip_cons_cons, List.zip_nil_right, List.foldl_cons, List.foldl_nil, eq_self, Option.bind_some, Option.map_some, Bool.not_false, Bool.not_true, Bool.true_and, Bool.and_true, Bool.false_and, Bool.and_false, Bool.or_true, Bool.true_or, Bool.or_false, Bool.false_or, if_true, Bool.false_eq_true, if_false, Nat.sub_self, Nat.reduceAdd, Nat.reduceSub, Nat.reduceEqDiff, ite_true, ite_false, Nat.reduceLeDiff, isN_non]
  | bl b => exact (eqBl_ok b b S).trans (by simp)
  | int i =>
    unfold P.c__law_equal
    simp only [evF_end, end_nx, end_rt, FU, e_non, e_bl, e_int, e_str, e_ty, e_var, getV_some, e_glo, e_tup, e_lst, e_bin, e_neg, negV_int, e_not, e_and, e_or, andV_bl, orV_bl, and_pure, or_pure, e_cmp, e_chain, e_ite, e_idx, e_sli, e_gcd, e_sset, gcdV_int, e_call, callR_ret, e_bi, e_comp, l_nil, l_cons, s_nil, s_cons, then_nx, then_rt, turn_eq, ife_t, ife_f, ifeG_eq, c_asg, c_ret, c_retO, c_exp, c_ife, c_for, c_asgO, c_app, c_sset, g0, gS, st0, stS, thaw_tup, thaw_lst, thaw_own, thaw_int, thaw_bl, thaw_str, thaw_non, thaw_stm, own_tup, own_lst, own_own, own_int, own_bl, own_str, own_non, own_ty, own_stm, tru_bl, tru_int, seq_tup, seq_lst, seq_own, lst_lst, lst_own, add_int, sub_int, eq_int, ne_int, lt_int', le_int', gt_int', ge_int', ne_bl, eq_bl, idx_tup, idx_lst, idx_own, len_1, all_1, any_1, sum_1, tuple_1, list_1, sorted_1, int_1, abs_1, type_1, bind_nm, bind_tp, bind_ns, bind_tpl, min1_1, max1_1, mind_1, min2_1, max2_1, it_enum, enumB_lst, c_par, it_seq, it_rng1, it_rng2, rngA_int, rngB_int, it_zip, zip_tup, zip_lst, par_none, par_some, parB_int, sli_tup, sli_lst, step_none, step_some, wipe_nil, wipe_cons, List.map_cons, List.map_nil, List.length_cons, len_nil, List.all_cons, List.all_nil, List.replicate, List.cons_append, List.nil_append, List.append_nil, List.zip_cons_cons, List.zip_nil_right, List.foldl_cons, List.foldl_nil, eq_self, Option.bind_some, Option.map_some, Bool.not_false, Bool.not_true, Bool.true_and, Bool.and_true, Bool.false_and, Bool.and_false, Bool.or_true, Bool.true_or, Bool.or_false, Bool.false_or, if_true, Bool.false_eq_true, if_false, Nat.sub_self, Nat.reduceAdd, Nat.reduceSub, Nat.reduceEqDiff, ite_true, ite_false, Nat.reduceLeDiff, isN_int, isi_of (x := .int i) (m := "int") (n := "bool") rfl (by decide +kernel : kitB "int" "bool" = some false), isi_of (x := .int i) (m := "int") (n := "int") rfl (by decide +kernel : kitB "int" "int" = some true), ei, hi i, decide_true]
  | str s =>
    unfold P.c__law_equal
    simp only [evF_end, end_nx, end_rt, FU, e_non, e_bl, e_int, e_str, e_ty, e_var, getV_some, e_glo, e_tup, e_lst, e_bin, e_neg, negV_int, e_not, e_and, e_or, andV_bl, orV_bl, and_pure, or_pure, e_cmp, e_chain, e_ite, e_idx, e_sli, e_gcd, e_sset, gcdV_int, e_call, callR_ret, e_bi, e_comp, l_nil, l_cons, s_nil, s_cons, then_nx, then_rt, turn_eq, ife_t, ife_f, ifeG_eq, c_asg, c_ret, c_retO, c_exp, c_ife, c_for, c_asgO, c_app, c_sset, g0, gS, st0, stS, thaw_tup, thaw_lst, thaw_own, thaw_int, thaw_bl, thaw_str, thaw_non, thaw_stm, own_tup, own_lst, own_own, own_int, own_bl, own_str, own_non, own_ty, own_stm, tru_bl, tru_int, seq_tup, seq_lst, seq_own, lst_lst, lst_own, add_int, sub_int, eq_int, ne_int, lt_int', le_int', gt_int', ge_int', ne_bl, eq_bl, idx_tup, idx_lst, idx_own, len_1, all_1, any_1, sum_1, tuple_1, list_1, sorted_1, int_1, abs_1, type_1, bind_nm, bind_tp, bind_ns, bind_tpl, min1_1, max1_1, mind_1, min2_1, max2_1, it_enum, enumB_lst, c_par, it_seq, it_rng1, it_rng2, rngA_int, rngB_int, it_zip, zip_tup, zip_lst, par_none, par_some, parB_int, sli_tup, sli_lst, step_none, step_some, wipe_nil, wipe_cons, List.map_cons, List.map_nil, List.length_cons, len_nil, List.all_cons, List.all_nil, List.replicate, List.cons_append, List.nil_append, List.append_nil, List.zip_cons_cons, List.zip_nil_right, List.foldl_cons, List.foldl_nil, eq_self, Option.bind_some, Option.map_some, Bool.not_false, Bool.not_true, Bool.true_and, Bool.and_true, Bool.false_and, Bool.and_false, Bool.or_true, Bool.true_or, Bool.or_false, Bool.false_or, if_true, Bool.false_eq_true, if_false, Nat.sub_self, Nat.reduceAdd, Nat.reduceSub, Nat.reduceEqDiff, ite_true, ite_false, Nat.reduceLeDiff, isN_str, isi_of (x := .str s) (m := "str") (n := "bool") rfl (by decide +kernel : kitB "str" "bool" = some false), isi_of (x := .str s) (m := "str") (n := "int") rfl (by decide +kernel : kitB "str" "int" = some false), isi_of (x := .str s) (m := "str") (n := "str") rfl (by decide +kernel : kitB "str" "str" = some true), eq_str (s := s) (by simpa [PV.sz] using hz)]
  | tup A => exact cont A (.inl rfl)
  | lst A => exact cont A (.inr rfl)
  | _ => simp [PV.pl] at hp
end Ws

/-! Ws30: fences of the program, those that part pairs, the narrowest; the same by the laws. -/
namespace Ws
open PySem PySem.Spec L2

theorem sev_of {n : Int} (h1 : 2 ≤ n) (h2 : n ≤ 7) : n = 2 ∨ n = 3 ∨ n = 4 ∨ n = 5 ∨ n = 6 ∨ n = 7 := by omega
theorem at2_1 {a b : PV} : atI [a, b] 1 = some b := rfl
/-! ### pairs -/
def pairV (p : Int × Int) : PV := .tup [.int p.1, .int p.2]
/-- exactly one of the two is in the set -/
def prt (f : List Int) (p : Int × Int) : Bool := decide (p.1 ∈ f) != decide (p.2 ∈ f)
def partsF (F : List (List Int)) (ps : List (Int × Int)) : List (List Int) := F.filter fun f => ps.all (prt f)
theorem compL_fil {α : Type} {step : PV → Strm → Option (Option PV × Strm)} {S : Strm} {f : α → PV} {p : α → Bool} {xs : List α} (h : ∀ x ∈ xs, step (f x) S = some (if p x then some (f x) else none, S)) : compL step (xs.map f) S = some ((xs.filter p).map f, S) := by
  have w := compL_map (f := f) (g := fun x => if p x then some (f x) else none) h
  rw [w, filterMap_if p f]
theorem compL_maps {α : Type} {step : PV → Strm → Option (Option PV × Strm)} {S : Strm} {f : α → PV} {g : α → PV} {xs : List α} (h : ∀ x ∈ xs, step (f x) S = some (some (g x), S)) : compL step (xs.map f) S = some (xs.map g, S) := by
  have w := compL_map (f := f) (g := fun x => some (g x)) h
  rw [w, List.filterMap_eq_map']
/-- the narrowest of these sets -/
def narrow (ls : List Lk) (F : List (List Int)) (m : Int) : List (List Int) := F.filter fun f => decide (crossV ls f = m)
end Ws

/-! Ws31: the laws' own fences, pairs, widths, least ones. -/
namespace Ws
open PySem PySem.Spec L2

/-- all pairs of points, in order -/
def pairsL : Int → List (Int × Int)
  | 2 => [(0, 1)]
  | 3 => [(0, 1), (0, 2), (1, 2)]
  | 4 => [(0, 1), (0, 2), (0, 3), (1, 2), (1, 3), (2, 3)]
  | 5 => [(0, 1), (0, 2), (0, 3), (0, 4), (1, 2), (1, 3), (1, 4), (2, 3), (2, 4), (3, 4)]
  | 6 => [(0, 1), (0, 2), (0, 3), (0, 4), (0, 5), (1, 2), (1, 3), (1, 4), (1, 5), (2, 3), (2, 4), (2, 5), (3, 4), (3, 5), (4, 5)]
  | 7 => [(0, 1), (0, 2), (0, 3), (0, 4), (0, 5), (0, 6), (1, 2), (1, 3), (1, 4), (1, 5), (1, 6), (2, 3), (2, 4), (2, 5), (2, 6), (3, 4), (3, 5), (3, 6), (4, 5), (4, 6), (5, 6)]
  | _ => []
theorem atc0 {a : PV} {l : List PV} : atI (a :: l) 0 = some a := by
  unfold atI ixN
  rw [if_pos (by decide), if_pos (by rw [List.length_cons]; omega)]
  rfl
end Ws

/-! Ws32: the least widths of fences that part pairs: mathematics. -/
namespace Ws
open PySem PySem.Spec L2

/-! ### least ones -/
theorem foldMin_le : ∀ (l : List Int) (x : Int), l.foldl (fun a b => if b < a then b else a) x ≤ x ∧ ∀ y ∈ l, l.foldl (fun a b => if b < a then b else a) x ≤ y
  | [], x => ⟨Int.le_refl _, fun y h => by simp at h⟩
  | z :: l, x => by
    rw [List.foldl_cons]
    obtain ⟨h1, h2⟩ := foldMin_le l (if z < x then z else x)
    have z1 : (if z < x then z else x) ≤ x := by split <;> omega
    have z2 : (if z < x then z else x) ≤ z := by split <;> omega
    constructor
    · exact Int.le_trans h1 z1
    · intro y hy
      rcases List.mem_cons.mp hy with rfl | hy
      · exact Int.le_trans h1 z2
      · exact h2 y hy
theorem foldMin_mem : ∀ (l : List Int) (x : Int), l.foldl (fun a b => if b < a then b else a) x = x ∨ l.foldl (fun a b => if b < a then b else a) x ∈ l
  | [], x => .inl rfl
  | z :: l, x => by
    rw [List.foldl_cons]
    rcases foldMin_mem l (if z < x then z else x) with h | h
    · rw [h]
      split
      · exact .inr (List.mem_cons_self ..)
      · exact .inl rfl
    · exact .inr (List.mem_cons_of_mem _ h)
theorem minL_some {l : List Int} {m : Int} (h : minL l = some m) : m ∈ l ∧ ∀ y ∈ l, m ≤ y := by
  cases l with
  | nil => simp [minL] at h
  | cons x l =>
    simp only [minL, Option.some.injEq] at h
    subst h
    constructor
    · rcases foldMin_mem l x with h | h
      · rw [h]; exact List.mem_cons_self ..
      · exact List.mem_cons_of_mem _ h
    · intro y hy
      obtain ⟨h1, h2⟩ := foldMin_le l x
      rcases List.mem_cons.mp hy with rfl | hy
      · exact h1
      · exact h2 y hy
theorem minL_ex {l : List Int} (h : l ≠ []) : ∃ m, minL l = some m := by
  cases l with
  | nil => exact absurd rfl h
  | cons x l => exact ⟨_, rfl⟩
/-- the least of a function over what is there -/
structure Least {α : Type} (F : List α) (g : α → Int) (m : Int) : Prop where
  at_ : ∃ f ∈ F, g f = m
  le : ∀ f ∈ F, m ≤ g f
theorem least_of {α : Type} {F : List α} {g : α → Int} {m : Int} (h : minL (F.map g) = some m) : Least F g m := by
  obtain ⟨h1, h2⟩ := minL_some h
  obtain ⟨f, hf, e⟩ := List.mem_map.mp h1
  exact ⟨⟨f, hf, e⟩, fun f hf => h2 _ (List.mem_map_of_mem hf)⟩
theorem Least.ex {α : Type} {F : List α} {g : α → Int} (h : F ≠ []) : ∃ m, minL (F.map g) = some m ∧ Least F g m := by
  obtain ⟨m, e⟩ := minL_ex (l := F.map g) (by cases F with | nil => exact absurd rfl h | cons x l => simp)
  exact ⟨m, e, least_of e⟩
theorem Least.uniq {α : Type} {F : List α} {g : α → Int} {m k : Int} (h : Least F g m) (h' : Least F g k) : m = k := by
  obtain ⟨⟨f, hf, e⟩, hl⟩ := h
  obtain ⟨⟨f', hf', e'⟩, hl'⟩ := h'
  have := hl f' hf'
  have := hl' f hf
  omega
/-! ### widths -/
/-! ### all fences -/
/-! ### a road that is wider by 1 or less wide -/
theorem ascP_pw : ∀ {ls : List Lk}, ascP ls = true ↔ ls.Pairwise (fun a b => a.1 < b.1 ∨ (a.1 = b.1 ∧ a.2.1 < b.2.1))
  | [] => by simp [ascP]
  | [x] => by simp [ascP]
  | x :: y :: r => by
    have ih := ascP_pw (ls := y :: r)
    simp only [ascP, Bool.and_eq_true, ih]
    constructor
    · rintro ⟨h1, h2⟩
      refine List.Pairwise.cons (fun z hz => ?_) h2
      have h1 : x.1 < y.1 ∨ (x.1 = y.1 ∧ x.2.1 < y.2.1) := by simpa using h1
      rcases List.mem_cons.mp hz with rfl | hz
      · exact h1
      · have := (List.pairwise_cons.mp h2).1 z hz
        omega
    · intro h
      obtain ⟨h1, h2⟩ := List.pairwise_cons.mp h
      refine ⟨?_, h2⟩
      have := h1 y (List.mem_cons_self ..)
      simpa using this
end Ws

/-! Ws33: need_pairs, bound_fences, bounds; _law_two. -/
namespace Ws
open PySem PySem.Spec L2

def pinB (n : Int) : Bool := (pairsL n).all fun p => decide (0 ≤ p.1) && decide (p.1 ≤ n - 1) && (decide (p.1 + 1 ≤ p.2) && decide (p.2 ≤ n - 1))
theorem pinB_all : [2, 3, 4, 5, 6, 7].all pinB = true := by decide +kernel
theorem pin {n : Int} (h1 : 2 ≤ n) (h2 : n ≤ 7) {p : Int × Int} (hp : p ∈ pairsL n) : isPr (pairV p) n = true := by
  have := List.all_eq_true.mp pinB_all n (by rcases sev_of h1 h2 with rfl | rfl | rfl | rfl | rfl | rfl <;> decide)
  exact List.all_eq_true.mp this p hp
/-- the least fence's width, the least fences, the first of these -/
structure Lst (n : Int) (ls : List Lk) (ps : List (Int × Int)) (m : Int) (f : List Int) (F : List (List Int)) : Prop where
  min : minL ((partsF (fences n) ps).map (crossV ls)) = some m
  fs : narrow ls (partsF (fences n) ps) m = f :: F
  wid : crossV ls f = m
theorem pts_own {f : List Int} : (ptsV f).isOwn = false := rfl
def BoundsOk (φ : Fn) : Prop := ∀ n ls p q S m1 m2 m3 f1 f2 f3 F1 F2 F3, GoodNet n ls → p ∈ pairsL n → q ∈ pairsL n → q ≠ p → Lst n ls [p] m1 f1 F1 → Lst n ls [q] m2 f2 F2 → Lst n ls [p, q] m3 f3 F3 →
  φ [netV n ls, pairV p, pairV q] S = some (.ret (.tup [.int m1, .int m2, .int m3]), S)
end Ws

/-! Ws34: _law_two: a net that is drawn, and two pairs. -/
namespace Ws
open PySem PySem.Spec L2

def plB (n : Int) : Bool := (pairsL n).length ≤ 21 && (pairsL n).length ≥ 3 && decide ((pairsL n).Pairwise fun a b => a.1 < b.1 ∨ (a.1 = b.1 ∧ a.2 < b.2))
theorem plB_all : [3, 4, 5, 6, 7].all plB = true := by decide +kernel
theorem pl_facts {n : Int} (h1 : 3 ≤ n) (h2 : n ≤ 7) : (pairsL n).length ≤ 21 ∧ 3 ≤ (pairsL n).length ∧ (pairsL n).Pairwise fun a b => a.1 < b.1 ∨ (a.1 = b.1 ∧ a.2 < b.2) := by
  have := List.all_eq_true.mp plB_all n (by rcases (by omega : n = 3 ∨ n = 4 ∨ n = 5 ∨ n = 6 ∨ n = 7) with rfl | rfl | rfl | rfl | rfl <;> decide)
  unfold plB at this
  simp only [Bool.and_eq_true, decide_eq_true_eq] at this
  exact ⟨this.1.1, this.1.2, this.2⟩
/-- links over the pairs so far -/
structure Ov (P : List (Int × Int)) (ls : List Lk) : Prop where
  len : ls.length ≤ 15
  wid : ∀ r ∈ ls, 1 ≤ r.2.2 ∧ r.2.2 ≤ 6
  sub : (ls.map fun r => (r.1, r.2.1)).Sublist P
theorem Ov.net {n : Int} {ls : List Lk} (h1 : 3 ≤ n) (h2 : n ≤ 7) (o : Ov (pairsL n) ls) : GoodNet n ls := by
  refine ⟨by omega, h2, o.len, fun r hr => ?_, ?_⟩
  · have hm : (r.1, r.2.1) ∈ pairsL n := o.sub.subset (List.mem_map_of_mem hr)
    have := pin (by omega) h2 hm
    have w := o.wid r hr
    unfold isPr pairV at this
    unfold goodLk
    dsimp only at this
    rw [this, decide_eq_true w.1, decide_eq_true w.2]; rfl
  · have pw := (pl_facts h1 h2).2.2.sublist o.sub
    rw [ascP_pw]
    exact List.pairwise_map.mp pw
theorem at_mapF {α : Type} {f : α → PV} {l : List α} {i : Int} (h0 : 0 ≤ i) (h1 : i < l.length) : ∃ x, l[i.toNat]? = some x ∧ atI (l.map f) i = some (f x) := by
  have hi : i.toNat < l.length := by omega
  refine ⟨l[i.toNat], List.getElem?_eq_getElem hi, ?_⟩
  unfold atI ixN
  rw [if_pos (by omega), if_pos (by rw [List.length_map]; omega)]
  show ((l.map f)[i.toNat]?) = _
  rw [List.getElem?_map, List.getElem?_eq_getElem hi]; rfl
end Ws

/-! Ws35: _law_net; least_fences, most, sides, narrower_roads, wider_roads; in of lists of tuples. -/
namespace Ws
open PySem PySem.Spec L2

def plC (n : Int) : Bool := (pairsL n).length ≤ 21 && (pairsL n).length ≥ 1 && decide ((pairsL n).Pairwise fun a b => a.1 < b.1 ∨ (a.1 = b.1 ∧ a.2 < b.2))
theorem plC_all : [2, 3, 4, 5, 6, 7].all plC = true := by decide +kernel
theorem pl_facts2 {n : Int} (h1 : 2 ≤ n) (h2 : n ≤ 7) : (pairsL n).length ≤ 21 ∧ 1 ≤ (pairsL n).length ∧ (pairsL n).Pairwise fun a b => a.1 < b.1 ∨ (a.1 = b.1 ∧ a.2 < b.2) := by
  have := List.all_eq_true.mp plC_all n (by rcases sev_of h1 h2 with rfl | rfl | rfl | rfl | rfl | rfl <;> decide)
  unfold plC at this
  simp only [Bool.and_eq_true, decide_eq_true_eq] at this
  exact ⟨this.1.1, this.1.2, this.2⟩
/-! ### the program -/
theorem pin2 {n : Int} (h1 : 2 ≤ n) (h2 : n ≤ 7) {p : Int × Int} (hp : p ∈ pairsL n) : 0 ≤ p.1 ∧ p.1 ≤ n - 1 ∧ p.1 + 1 ≤ p.2 ∧ p.2 ≤ n - 1 := by
  have := pin h1 h2 hp
  unfold isPr pairV at this
  simp only [Bool.and_eq_true, decide_eq_true_eq] at this
  exact ⟨this.1.1, this.1.2, this.2.1, this.2.2⟩
/-! ### in of lists of tuples -/
def ptsD (f : List Int) : PyData := .tuple (f.map .int)
theorem pts_pd (f : List Int) : (ptsV f).pd = some (ptsD f) := by unfold ptsV ptsD; rw [PV.pd, ints_pds]; rfl
theorem pts_pds : ∀ F : List (List Int), PV.pds (F.map ptsV) = some (F.map ptsD)
  | [] => rfl
  | f :: F => by rw [List.map_cons, PV.pds, pts_pd, pts_pds F]; rfl
theorem ints_lay : ∀ l : List Int, PyData.canLayAll0 (l.map .int) = true
  | [] => by simp [PyData.canLayAll0]
  | x :: l => by rw [List.map_cons, PyData.canLayAll0, ints_lay l]; simp [PyData.canLay0]
theorem ptsD_lay (f : List Int) : PyData.canLay0 (ptsD f) = true := by unfold ptsD; simp [PyData.canLay0, ints_lay]
theorem ptsD_lays : ∀ F : List (List Int), PyData.canLayAll0 (F.map ptsD) = true
  | [] => by simp [PyData.canLayAll0]
  | f :: F => by rw [List.map_cons, PyData.canLayAll0, ptsD_lay, ptsD_lays F]; rfl
theorem ptsD_shaped (f : List Int) : SeqAt.shaped (ptsD f) = true := by
  have := ptsD_lay f
  unfold ptsD at *
  simp [SeqAt.shaped, this, PyData.depth, PySem.W.depth_ints]
theorem ints_eqv : ∀ a b : List Int, PyData.eqvAll (a.map .int) (b.map .int) = decide (a = b)
  | [], [] => by simp [PyData.eqvAll]
  | [], _ :: _ => by simp [PyData.eqvAll]
  | _ :: _, [] => by simp [PyData.eqvAll]
  | x :: a, y :: b => by
    rw [List.map_cons, List.map_cons, PyData.eqvAll, ints_eqv a b]
    simp only [PyData.eqv, List.cons.injEq]
    by_cases h1 : x = y <;> by_cases h2 : a = b <;> simp [h1, h2]
theorem ptsD_eqv (a b : List Int) : PyData.eqv (ptsD a) (ptsD b) = decide (a = b) := by unfold ptsD; rw [PyData.eqv, ints_eqv]
theorem mem_pts {a : List Int} {F : List (List Int)} : cmpV .mem (ptsV a) (.lst (F.map ptsV)) = some (decide (a ∈ F)) := by
  show memV (ptsV a) (F.map ptsV) = _
  unfold memV
  rw [if_neg (by rw [show (ptsV a).flat1 = false from rfl]; simp)]
  unfold memD
  rw [pts_pd, pts_pds]
  dsimp only
  rw [ptsD_shaped, ptsD_lays]
  rw [if_pos (by rfl)]
  congr 1
  rw [List.any_map]
  induction F with
  | nil => simp
  | cons f F ih =>
    rw [List.any_cons, ih]
    simp only [Function.comp_apply, ptsD_eqv, List.mem_cons]
    by_cases h1 : f = a
    · subst h1; simp
    · have : ¬ a = f := fun z => h1 z.symm
      simp [h1, this]
end Ws

/-! Ws36: sides of fences; the least ones go together: mathematics. -/
namespace Ws
open PySem PySem.Spec L2

/-- the points -/
def rngI (n : Int) : List Int := (List.range n.toNat).map fun (k : Nat) => (k : Int)
theorem mem_rngI {n x : Int} : x ∈ rngI n ↔ 0 ≤ x ∧ x < n := by
  unfold rngI
  rw [List.mem_map]
  constructor
  · rintro ⟨k, hk, rfl⟩
    rw [List.mem_range] at hk
    omega
  · rintro ⟨h1, h2⟩
    exact ⟨x.toNat, by rw [List.mem_range]; omega, by omega⟩
theorem rangeV_rng (n : Int) : rangeV 0 n = (rngI n).map .int := by
  unfold rangeV rngI
  rw [List.map_map, Int.sub_zero]
  refine List.map_congr_left fun k _ => ?_
  show PV.int (0 + (k : Int)) = _
  rw [Int.zero_add]; rfl
theorem rngI_len {n : Int} : (rngI n).length = n.toNat := by unfold rngI; rw [List.length_map, List.length_range]
def p1 (n : Int) : List Int := (rngI n).drop 1
def f1B (n : Int) : Bool := (fences n).all fun A => A.all fun x => decide (1 ≤ x) && decide (x < n)
theorem f1B_all : [2, 3, 4, 5, 6, 7].all f1B = true := by decide +kernel
theorem f1 {n : Int} (h1 : 2 ≤ n) (h2 : n ≤ 7) {A : List Int} (hA : A ∈ fences n) {x : Int} (hx : x ∈ A) : 1 ≤ x ∧ x < n := by
  have := List.all_eq_true.mp f1B_all n (by rcases sev_of h1 h2 with rfl | rfl | rfl | rfl | rfl | rfl <;> decide)
  have := List.all_eq_true.mp (List.all_eq_true.mp this A hA) x hx
  simpa using this
end Ws

/-! Ws37: side_of, sides. -/
namespace Ws
open PySem PySem.Spec L2

end Ws

/-! Ws38: fences are short. -/
namespace Ws
open PySem PySem.Spec L2
end Ws

/-! Ws39: a changed road (_law_changed_v2); narrower_roads, wider_roads. -/
namespace Ws
open PySem PySem.Spec L2

theorem cut_to {l : List PV} {k : Nat} (h : k ≤ l.length) : cutP l none (some (k : Int)) = l.take k := by
  unfold cutP
  rw [HT.sIx_none, HT.sIx_nat, Nat.min_eq_left h, List.drop_zero, Nat.sub_zero]
/-! ### the roads that matter -/
theorem Least.less {α : Type} {F : List α} {g g' : α → Int} {c : α → Bool} {m k : Int} (h : Least F g m) (h' : Least F g' k) (hg : ∀ f ∈ F, g' f = g f + (if c f then -1 else 0)) : k < m ↔ ∃ f ∈ F, g f = m ∧ c f = true := by
  obtain ⟨⟨f, hf, e⟩, hl⟩ := h
  obtain ⟨⟨f', hf', e'⟩, hl'⟩ := h'
  constructor
  · intro hk
    refine ⟨f', hf', ?_⟩
    have a := hg f' hf'
    have b := hl f' hf'
    cases hc : c f' with
    | true => rw [hc] at a; exact ⟨by rw [if_pos rfl] at a; omega, rfl⟩
    | false => rw [hc] at a; rw [if_neg (by simp)] at a; omega
  · rintro ⟨x, hx, ex, cx⟩
    have a := hg x hx
    rw [cx, if_pos rfl] at a
    have := hl' x hx
    omega
theorem Least.more {α : Type} {F : List α} {g g' : α → Int} {c : α → Bool} {m k : Int} (h : Least F g m) (h' : Least F g' k) (hg : ∀ f ∈ F, g' f = g f + (if c f then 1 else 0)) : k > m ↔ ∀ f ∈ F, g f = m → c f = true := by
  obtain ⟨⟨f, hf, e⟩, hl⟩ := h
  obtain ⟨⟨f', hf', e'⟩, hl'⟩ := h'
  constructor
  · intro hk x hx ex
    have a := hg x hx
    have b := hl' x hx
    cases hc : c x with
    | true => rfl
    | false => rw [hc, if_neg (by simp)] at a; omega
  · intro q
    have a := hg f' hf'
    have b := hl f' hf'
    by_cases z : g f' = m
    · rw [q f' hf' z, if_pos rfl] at a; omega
    · split at a <;> omega
end Ws

/-! Ws40: links sorted; a road more. -/
namespace Ws
open PySem PySem.Spec L2

theorem ins_perm {α : Type} (le : α → α → Bool) (x : α) : ∀ ys : List α, (ins le x ys).Perm (x :: ys)
  | [] => .refl _
  | y :: ys => by
    rw [ins]
    split
    · exact .refl _
    · exact ((ins_perm le x ys).cons y).trans (.swap ..)
theorem isort_perm {α : Type} (le : α → α → Bool) : ∀ l : List α, (isort le l).Perm l
  | [] => .refl _
  | x :: l => (ins_perm le x _).trans ((isort_perm le l).cons x)
theorem isort_pw {α : Type} {le : α → α → Bool} (h : PySem.W.TotalLe le) : ∀ l : List α, (isort le l).Pairwise (fun a b => le a b = true)
  | [] => by simp [isort]
  | x :: l => by rw [isort]; exact ins_sorted h (isort_pw h l)
end Ws

/-! Ws41: sorted tuples of ints, = of lists of them; the law's own judges of links and fences. -/
namespace Ws
open PySem PySem.Spec L2

/-! ### tuples of ints, sorted -/
theorem pts_zip : ∀ F : List (List Int), (F.map ptsV).zip (F.map ptsD) = F.map fun f => (ptsV f, ptsD f)
  | [] => rfl
  | f :: F => by simp only [List.map_cons, List.zip_cons_cons, pts_zip F]
def leL (a b : List Int) : Bool := !decide (b < a)
theorem leL_eq (a b : List Int) : leL a b = srtLe (ptsV a, ptsD a) (ptsV b, ptsD b) := by
  unfold srtLe leL
  dsimp only
  have e : PySem.W.dataLt (ptsD b) (ptsD a) = decide (b < a) := by
    rw [← PySem.W.dataLt_ints]
    unfold ptsD
    rw [PySem.W.dataLt_tuple]
    rfl
  rw [e]
theorem alike_ints : ∀ a b : List Int, PySem.W.alikeAll (a.map .int) (b.map .int) = true
  | [], [] => by simp [PySem.W.alikeAll]
  | [], _ :: _ => by simp [PySem.W.alikeAll]
  | _ :: _, [] => by simp [PySem.W.alikeAll]
  | x :: a, y :: b => by rw [List.map_cons, List.map_cons, PySem.W.alikeAll, alike_ints a b]; simp [PySem.W.alike]
theorem srt_pts {F : List (List Int)} : srtV (F.map ptsV) = some ((isort leL F).map ptsV) := by
  unfold srtV
  rw [pts_pds, Option.bind_some, if_pos]
  · congr 1
    rw [pts_zip, ← isort_map (r := leL) (s := srtLe) (fun f => (ptsV f, ptsD f)) leL_eq, List.map_map]
    rfl
  · simp only [Bool.and_eq_true, List.all_eq_true]
    refine ⟨⟨fun d hd e he => ?_, ?_⟩, fun d hd => ?_⟩
    · obtain ⟨i, _, rfl⟩ := List.mem_map.mp hd
      obtain ⟨j, _, rfl⟩ := List.mem_map.mp he
      unfold ptsD
      rw [PySem.W.alike, alike_ints]
    · rw [Bool.or_eq_true]
      refine .inl (List.all_eq_true.mpr fun d hd => ?_)
      obtain ⟨i, _, rfl⟩ := List.mem_map.mp hd
      rfl
    · obtain ⟨i, _, rfl⟩ := List.mem_map.mp hd
      simp [ptsD, PyData.depth, PySem.W.depth_ints]
/-! ### = of lists -/
/-! ### isinstance -/
/-! ### _law_is_link -/
theorem L3' : (3 : Nat) ≤ LIM := by decide
end Ws

/-! Ws42: the law's own judges of many links and of fences; wishes. -/
namespace Ws
open PySem PySem.Spec L2

/-! ### going up -/
/-! ### _law_are_links -/
/-! ### _law_is_fence -/
/-! ### are_wishes -/
end Ws

/-! Ws43: changed links, fence-like values. -/
namespace Ws
open PySem PySem.Spec L2

theorem seq_nxt {ev : CS → Ws.Env → Strm → Option (Fl × Strm)} {c : CS} {cs : List CS} {env e' : Ws.Env} {S S' : Strm} (h : ev c env S = some (.nx e', S')) : seqL ev (c :: cs) env S = seqL ev cs e' S' := by rw [s_cons, h, Option.bind_some, then_nx]
theorem seq_ret {ev : CS → Ws.Env → Strm → Option (Fl × Strm)} {c : CS} {cs : List CS} {env : Ws.Env} {x : PV} {S S' : Strm} (h : ev c env S = some (.rt x, S')) : seqL ev (c :: cs) env S = some (.rt x, S') := by rw [s_cons, h, Option.bind_some, then_rt]
theorem addO {a b : List PV} (h : a.length + b.length ≤ LIM) : binV .add (.own a) (.lst b) = some (.lst (a ++ b)) := by
  show (if a.length + b.length ≤ LIM then some (PV.lst (a ++ b)) else none) = _
  rw [if_pos h]
section
variable {T : Tbl} {S : Strm} {n : Int} {L : List PV} {x0 x1 x2 x3 x4 x5 x6 x7 x8 x9 : Option PV} {a b c o q : PV} {k : Nat}
end
end Ws

/-! Ws44: changed links, to the end; fence-like values. -/
namespace Ws
open PySem PySem.Spec L2

section
variable {T : Tbl} {S : Strm} {n : Int} {L M : List PV} {x0 x1 x2 x3 x4 x5 x6 x7 x8 x9 : Option PV} {a b c o q : PV} {k : Nat}
end
/-! ### fence-like values -/
end Ws

/-! Ws45: wishes, rooms, weak and tight fences. -/
namespace Ws
open PySem PySem.Spec L2

/-- good wishes of a net -/
abbrev wsV (ws : List Lk) : PV := .tup (ws.map lk)
theorem tru_lst {l : List PV} : (PV.lst l).tru = some (!l.isEmpty) := rfl
/-! ### sums at points -/
theorem at_intsN {l : List Int} {i : Int} (h0 : 0 ≤ i) (h1 : i < l.length) : atI (l.map PV.int) i = some (.int (l.getD i.toNat 0)) ∧ ixN (l.map PV.int).length i = some i.toNat := by
  have hx : ixN (l.map PV.int).length i = some i.toNat := by unfold ixN; rw [if_pos h0, if_pos (by rw [List.length_map]; omega)]
  refine ⟨?_, hx⟩
  unfold atI
  rw [hx]
  show (l.map PV.int)[i.toNat]? = _
  rw [List.getElem?_map, List.getD_eq_getElem?_getD, List.getElem?_eq_getElem (by omega)]; rfl
end Ws

/-! Ws46: the least of pairs of a width and a fence; ends and the fences that part them. -/
namespace Ws
open PySem PySem.Spec L2

/-! ### ends -/
structure GoodEnds (n : Int) (es : List Int) : Prop where
  lo : 2 ≤ es.length
  hi : es.length ≤ 5
  inn : ∀ x ∈ es, 0 ≤ x ∧ x < n
  asc : es.Pairwise fun x y => x < y
theorem GoodEnds.nd {n : Int} {es : List Int} (g : GoodEnds n es) : es.Nodup := g.asc.imp fun {a b} h => by omega
/-! ### halves -/
end Ws

/-! Ws47: reaches summed; what the law says of them. -/
namespace Ws
open PySem PySem.Spec L2

/-! ### fences that part an end -/
/-! ### the least width, as a number -/
/-! ### the law's own -/
end Ws

/-! Ws48: the law's net, its ends. -/
namespace Ws
open PySem PySem.Spec L2

/-- links of pairs apart -/
structure Ow (n : Int) (ls : List Lk) : Prop where
  wid : ∀ r ∈ ls, goodLk n 6 r = true
  ne : ls.Pairwise fun a b => ¬ (a.1 = b.1 ∧ a.2.1 = b.2.1)
/-! the two first lines -/
section
variable {T : Tbl} {S : Strm} {m : PV}
def netB1 (T : Tbl) (n : Int) (m : PV) (S : Strm) : Option (Fl × Strm) := evS T FU (.for_ (.nm 4) (.rng1 (.var 1)) [.asg (.nm 3) (.bin .add (.var 3) (.comp (.tup [(.var 4), (.var 8)]) (.nm 8) (.rng2 (.bin .add (.var 4) (.int 1)) (.var 1)) none [("other", 8)]))]) [some .stm, some (.int n), some m, some (.lst []), none, none, none, none, none, none] S
theorem nb2 : netB1 T 2 m S = some (.nx [some .stm, some (.int 2), some m, some (.lst ((pairsL 2).map pairV)), some (.int 1), none, none, none, none, none], S) := by kernel_rfl
theorem nb3 : netB1 T 3 m S = some (.nx [some .stm, some (.int 3), some m, some (.lst ((pairsL 3).map pairV)), some (.int 2), none, none, none, none, none], S) := by kernel_rfl
theorem nb4 : netB1 T 4 m S = some (.nx [some .stm, some (.int 4), some m, some (.lst ((pairsL 4).map pairV)), some (.int 3), none, none, none, none, none], S) := by kernel_rfl
theorem nb5 : netB1 T 5 m S = some (.nx [some .stm, some (.int 5), some m, some (.lst ((pairsL 5).map pairV)), some (.int 4), none, none, none, none, none], S) := by kernel_rfl
theorem nb6 : netB1 T 6 m S = some (.nx [some .stm, some (.int 6), some m, some (.lst ((pairsL 6).map pairV)), some (.int 5), none, none, none, none, none], S) := by kernel_rfl
theorem nb7 : netB1 T 7 m S = some (.nx [some .stm, some (.int 7), some m, some (.lst ((pairsL 7).map pairV)), some (.int 6), none, none, none, none, none], S) := by kernel_rfl
theorem nb {n : Int} (h1 : 2 ≤ n) (h2 : n ≤ 7) : netB1 T n m S = some (.nx [some .stm, some (.int n), some m, some (.lst ((pairsL n).map pairV)), some (.int (n - 1)), none, none, none, none, none], S) := by
  rcases sev_of h1 h2 with rfl | rfl | rfl | rfl | rfl | rfl
  · exact nb2
  · exact nb3
  · exact nb4
  · exact nb5
  · exact nb6
  · exact nb7
end
/-! ### ends -/
theorem erase_perm {α : Type} : ∀ {l : List α} {i : Nat} {x : α}, l[i]? = some x → (x :: l.eraseIdx i).Perm l
  | y :: l, 0, x, h => by
    rw [List.getElem?_cons_zero] at h
    cases h
    exact .refl _
  | y :: l, i + 1, x, h => by
    rw [List.getElem?_cons_succ] at h
    rw [List.eraseIdx_cons_succ]
    exact (List.Perm.swap y x _).trans ((erase_perm h).cons y)
theorem erase_map {α β : Type} (f : α → β) : ∀ (l : List α) (i : Nat), (l.map f).eraseIdx i = (l.eraseIdx i).map f
  | [], _ => rfl
  | x :: l, 0 => rfl
  | x :: l, i + 1 => by rw [List.map_cons, List.eraseIdx_cons_succ, List.eraseIdx_cons_succ, List.map_cons, erase_map f l i]
theorem e_rg1 {T : Tbl} {S : Strm} {m : Nat} {t : Bool} {b : CE} {env : Ws.Env} : evE T (m + 1) (.rg1 t b) env S = (evE T m b env S).bind (rgV1 t) := rfl
end Ws

/-! Ws49: two ends; every point an end. -/
namespace Ws
open PySem PySem.Spec L2

/-! every point an end -/
end Ws

/-! Ws50: parts, mathematics: points that roads join. -/
namespace Ws
open PySem PySem.Spec L2

/-- the value at a point -/
def at_ (l : List Int) (i : Int) : Int := l.getD i.toNat 0
abbrev Cl (ls : List Lk) (P : Int → Prop) : Prop := ∀ r ∈ ls, (P r.1 ↔ P r.2.1)
/-- the least point of each part, of the points n over the roads ls -/
structure PartOk (n : Int) (ls : List Lk) (m : Int → Int) : Prop where
  rg : ∀ i, 0 ≤ i → i < n → 0 ≤ m i ∧ m i ≤ i
  id : ∀ i, 0 ≤ i → i < n → m (m i) = m i
  A : ∀ r ∈ ls, m r.1 = m r.2.1
  C : ∀ P : Int → Prop, Cl ls P → ∀ i, 0 ≤ i → i < n → (P i ↔ P (m i))
/-- links whose points are among n -/
abbrev Inn (n : Int) (ls : List Lk) : Prop := ∀ r ∈ ls, (0 ≤ r.1 ∧ r.1 < n) ∧ (0 ≤ r.2.1 ∧ r.2.1 < n)
/-! the program's way -/
theorem PartOk.congr {n : Int} {ls : List Lk} {m m' : Int → Int} (p : PartOk n ls m) (hi : Inn n ls) (h : ∀ i, 0 ≤ i → i < n → m' i = m i) : PartOk n ls m' := by
  refine ⟨fun i h0 h1 => by rw [h i h0 h1]; exact p.rg i h0 h1, fun i h0 h1 => ?_, fun r hr => ?_, fun P hP i h0 h1 => by rw [h i h0 h1]; exact p.C P hP i h0 h1⟩
  · have := p.rg i h0 h1
    rw [h i h0 h1, h _ this.1 (by omega)]; exact p.id i h0 h1
  · obtain ⟨⟨a0, a1⟩, b0, b1⟩ := hi r hr
    rw [h _ a0 a1, h _ b0 b1]; exact p.A r hr
/-! the law's way -/
/-- what stays over the law's steps -/
structure LInv (n : Int) (m : Int → Int) (l : List Int) : Prop where
  ln : l.length = n.toNat
  rg : ∀ i, 0 ≤ i → i < n → 0 ≤ at_ l i ∧ at_ l i ≤ i
  mm : ∀ i, 0 ≤ i → i < n → m (at_ l i) = m i
theorem LInv.ge {n : Int} {ls : List Lk} {m : Int → Int} {l : List Int} (p : PartOk n ls m) (v : LInv n m l) {i : Int} (h0 : 0 ≤ i) (h1 : i < n) : m i ≤ at_ l i := by
  have r := v.rg i h0 h1
  have := p.rg (at_ l i) r.1 (by omega)
  rw [v.mm i h0 h1] at this
  exact this.2
end Ws

/-! Ws51: parts as lists; sums at points, odd points; fences that no road crosses. -/
namespace Ws
open PySem PySem.Spec L2

theorem rngI_pw {n : Int} : (rngI n).Pairwise (· < ·) := by
  unfold rngI
  exact List.pairwise_map.mpr (List.pairwise_lt_range.imp fun {a b} h => by omega)
/-! ### parts -/
def rootsL (n : Int) (m : Int → Int) : List Int := (rngI n).filter fun k => decide (m k = k)
/-! ### sums at points -/
/-! ### evenness -/
/-! ### fences that no road crosses -/
def clF (n : Int) (m : Int → Int) (f : List Int) : Bool := (rngI n).all fun i => decide (i ∈ f) == decide (m i ∈ f)
/-! ### how many -/
def En : Nat → List (List Int)
  | 0 => [[]]
  | k + 1 => (En k).flatMap fun l => ((rngI (k + 1)).filter fun (v : Int) => decide (v = (k : Int)) || decide (at_ l v = v)).map fun v => l ++ [v]
def chk7 (l : List Int) : Bool := (((rngI ((6 : Nat) + 1)).filter fun (v : Int) => decide (v = ((6 : Nat) : Int)) || decide (at_ l v = v)).map fun v => l ++ [v]).all fun l => decide (((fences (7 : Nat)).filter (clF (7 : Nat) (at_ l))).length + 1 = 2 ^ ((rootsL (7 : Nat) (at_ l)).length - 1))
def ck (k : Nat) : Bool := (((En 6).drop (k * 10)).take 10).all chk7
/-! ### wishes between parts -/
end Ws

/-! Ws52: sums_at, odd_points, parts; _law_across, _law_twice, _law_parts. -/
namespace Ws
open PySem PySem.Spec L2

/-! ### the law's counting -/
/-! ### the law's parts -/
section
variable {T : Tbl} {S : Strm} {x0 x1 x3 x6 x7 x8 : Option PV}
end
end Ws

/-! Ws53: parts of a net, by the program. -/
namespace Ws
open PySem PySem.Spec L2

section
variable {T : Tbl} {S : Strm} {x0 x1 x2 x10 : Option PV}
end
end Ws

/-! Ws54: reaches by sets of points; disjoint least ones: mathematics. -/
namespace Ws
open PySem PySem.Spec L2

section
variable {n : Int} {ls : List Lk} {es : List Int}
/-! ### disjoint least ones -/
/-! ### points renamed -/
end
end Ws

/-! Ws74: the bounds of two pairs in nets of up to seven points; a fence of one point is at most 36 wide: mathematics. -/
namespace Ws
open PySem PySem.Spec L2

/-! ### how wide a fence of one point may be -/
end Ws

/-! WsI: an own error of one field, whose __init__ says super().__init__(f'..'): how it is made. -/
namespace WsI
open PySem PySem.W PySem.Calls PyProof.Rows PySem.HandSPX

/-- a part of the text that is handed up: written, or the one parameter -/
def iPart (y : Str) : Expr → Bool
  | .Constant (.str z) _ _ => decide (z.length ≤ 100)
  | .FormattedValue (.Name x _) c none _ => (x == y) && (c == -1)
  | _ => false
/-- self, then the parameter y -/
def iArgs (y : Str) (a : Arguments) : Bool := match a with
  | { posonlyargs := [], args := [⟨p, none, _⟩, ⟨q, none, _⟩], vararg := none, kwonlyargs := [], kw_defaults := [], kwarg := none, defaults := [] } => (p == ("self" : Str)) && (q == y)
  | _ => false
/-- the two rows of the body -/
def iBody (y f : Str) : List Stmt → Bool
  | [.Expr (.Call (.Attribute (.Call (.Name sp _) [] [] _) m ap) [.JoinedStr (v1 :: v2 :: vs) _] [] cp) _, .Assign [.Attribute (.Name se _) g _] (.Name z _) _] =>
    (sp == ("super" : Str)) && (m == ("__init__" : Str)) && (v1 :: v2 :: vs).all (iPart y) && decide (vs.length ≤ 10) && (se == ("self" : Str)) && (g == f) && (z == y) && (ap.endLine == cp.line)
  | _ => false
def iScope (y : Str) (sc : Scope) : Bool := (sc.kind == .function) && !sc.isCoroutine && !sc.isGenerator && (sc.names.lookup ("super" : Str) == some .globalImplicit) && (sc.names.lookup ("__class__" : Str) == some .free) &&
  (sc.names.lookup ("self" : Str) == some .local) && (sc.names.lookup y == some .local) && sc.names.all (fun x => !(x.2 == .cell)) && !(y == ("self" : Str)) && !(y == ("__debug__" : Str))

section
variable {prog : Program} {w : World} {A : Around} {E : Value → Shared → Prop} {R : Result → Shared → Prop} {K : Frag}
/-- what the written part says of the error's class (at C), its __init__ (at fI), y its parameter, f its field -/
structure IniT (P : Program) (K : Frag) (y f : Str) (C fI : Addr) : Prop where
  T : L2.OexC K C
  ny : y = "name" ∨ y = "what" ∨ y = "why"
  noN : findIn K (.ref C) f = some none
  iC : findIn K (.ref C) "__init__" = some (some (.ref fI))
  tI : typeIn K (.ref fI) = some (.type "function")
  up : ks_superIn K C C "__init__" = some (some (.builtin "ValueError.__init__"))
  sB : subIn K (.ref C) (.type "ValueError") = some true
  sC : mroIn K C (.ref C) = some true
  sup : nsIn K mainGlobals "super" = some none
  opq : nsIn K cStatics "thirdparty.any" = some none
  top : (P.main.scope.names.lookup ("super" : Str)).isSome = false
  fn : ∃ (oc : Value) (od : Option Addr) (qual : Str) (args : Arguments) (body : List Stmt) (sc : Scope) (kV doc pm : Value) (an : Option Addr) (ct : Value) (osl : Array (Option Value)) (cc cda : Addr),
    K.lookup fI = some ⟨oc, od, .func (fnX "__init__" qual args body sc [("__class__", cc)] .none kV doc pm an (.ref cda) ct), osl⟩ ∧ codeIn K (.ref cda) qual = true ∧ iArgs y args = true ∧ iBody y f body = true ∧ iScope y sc = true ∧
    (∃ cl cld csl, K.lookup cc = some ⟨cl, cld, .cell (some (.ref C)), csl⟩) ∧ ∃ ccl cdd vs ccs file tf, K.lookup cda = some ⟨ccl, cdd, .fields vs, ccs⟩ ∧ vs[2]? = some (.str file tf) ∧ (P.main.file == file) = true
end
end WsI

namespace WsI
open PySem PySem.Spec PyProof.Rows L2
section
variable {X : Cx} {C fI : Addr} {y f x : Str}
end
end WsI

/-! Ws70: what raises: expressions. -/
namespace Ws
open PySem PySem.Spec PyProof.Rows L2

/-- an error in the air: its class, its field's text -/
abbrev Exc := Str × Str
abbrev XFn := List PV → Strm → Option (Exc × Strm)
abbrev XTbl := Str → Option (Nat × XFn)
/-- the errors' classes: where, and the field's name -/
abbrev ETbl := Str → Option (Addr × Str)
def ExcAt (EC : ETbl) (a : Addr) (x : Exc) (cls : Value) (d : Option Addr) (H : Hp) : Prop := ∃ C f dd, EC x.1 = some (C, f) ∧ cls = .ref C ∧ d = some dd ∧ dd ≠ a ∧ H dd = some (.xd [(f, .str x.2)])

def exL (ex : CE → Strm → Option (Exc × Strm)) (ev : CE → Strm → Option (PV × Strm)) : List CE → Strm → Option (Exc × Strm)
  | [], _ => none
  | e :: es, S => match ex e S with
    | some r => some r
    | none => (ev e S).bind fun r => exL ex ev es r.2
section
variable (T : Tbl) (TX : XTbl)
def exE : Nat → CE → Env → Strm → Option (Exc × Strm)
  | 0, _, _, _ => none
  | n + 1, c, env, S =>
    match c with
    | .call f l => if (T.fn f).isSome || (TX f).isSome then match exL (fun e S => exE n e env S) (fun e S => evE T n e env S) l S with
      | some r => some r
      | none => (TX f).bind fun ψ => (evL (fun e S => evE T n e env S) l S).bind fun r => if r.1.length = ψ.1 && r.1.all (fun x => !x.isOwn) then ψ.2 r.1 r.2 else none
      else none
    | .tup l => exL (fun e S => exE n e env S) (fun e S => evE T n e env S) l S
    | .lst l => exL (fun e S => exE n e env S) (fun e S => evE T n e env S) l S
    | .bi _ l => exL (fun e S => exE n e env S) (fun e S => evE T n e env S) l S
    | .not a => exE n a env S
    | .idx a _ => exE n a env S
    | .bin _ a _ => exE n a env S
    | .cmp _ a _ => exE n a env S
    | .and a b => match exE n a env S with
      | some r => some r
      | none => (evE T n a env S).bind fun r => match r.1 with
        | .bl true => exE n b env r.2
        | _ => none
    | .or a b => match exE n a env S with
      | some r => some r
      | none => (evE T n a env S).bind fun r => match r.1 with
        | .bl false => exE n b env r.2
        | _ => none
    | .ite d a b => match exE n d env S with
      | some r => some r
      | none => (evE T n d env S).bind fun r => r.1.tru.bind fun x => if x then exE n a env r.2 else exE n b env r.2
    | .comp _ _ (.seq e) _ _ => exE n e env S
    | _ => none
end

/-- the promise of a def that raises -/
def spX (K : PySem.W.Frag) (EC : ETbl) (np : Nat) (ψ : XFn) : Sp := fun vs H Q E => ∃ (R : Addr → Prop) (a : Addr) (xs : List PV) (S : Strm) (x : Exc) (S' : Strm), Fresh R a H ∧ Reps K R a H vs xs ∧ SRel K R a H S ∧ xs.length = np ∧ ψ xs S = some (x, S') ∧
  ∀ cls d H', ExcAt EC a x cls d H' → Keep a H H' → SRel K R a H' S' → E cls d H'
section
variable (T : Tbl) (TX : XTbl) (K : PySem.W.Frag) (EC : ETbl) (W : WX)
/-- e raises what is wished for -/
def XW (n : Nat) (c : CE) (σ : L2.St) (H : Hp) : Prop := ∃ R a env S x S', At K σ H R a env S ∧ exE T TX n c env S = some (x, S') ∧ ∀ cls d H', ExcAt EC a x cls d H' → Keep a H H' → SRel K R a H' S' → W cls d σ H'
end
theorem _root_.L2.PE.or {X : Cx} {e : Expr} {t t' : TE} (h : PE X e t) (h' : PE X e t') : PE X e (fun σ H Q => t σ H Q ∨ t' σ H Q) := ⟨fun pins s σ H Q I q => q.elim (h.run pins s σ H Q I) (h'.run pins s σ H Q I)⟩
theorem _root_.L2.PT.or {X : Cx} {e : Expr} {t t' : TT} (h : PT X e t) (h' : PT X e t') : PT X e (fun σ H Q => t σ H Q ∨ t' σ H Q) := ⟨fun pins s σ H Q I q => q.elim (h.run pins s σ H Q I) (h'.run pins s σ H Q I)⟩
theorem _root_.L2.PA.or {X : Cx} {e : List Expr} {t t' : TA} (h : PA X e t) (h' : PA X e t') : PA X e (fun σ H Q => t σ H Q ∨ t' σ H Q) := ⟨fun w pins s σ H Q I q => q.elim (h.run w pins s σ H Q I) (h'.run w pins s σ H Q I)⟩
section
variable {T : Tbl} {TX : XTbl} {EC : ETbl} {W : WX} {X : Cx} {n : Nat} {e : Expr} {c : CE}
variable {x y z : Expr} {a b d : CE} {pos : Pos}
end
end Ws

/-! Ws71: what raises: statements. -/
namespace Ws
open PySem PySem.Spec PyProof.Rows L2

section
variable (T : Tbl) (TX : XTbl) (XN : List Str)
end
section
variable (T : Tbl) (TX : XTbl) (XN : List Str) (K : PySem.W.Frag) (EC : ETbl) (W : WX) (R : Addr → Prop) (a : Addr) (H0 : Hp)
/-- what is wished behind -/
def PostX (x : Exc) (S' : Strm) : Prop := ∀ cls d σ' H', ExcAt EC a x cls d H' → Keep a H0 H' → SRel K R a H' S' → W cls d σ' H'
end
theorem _root_.L2.PS.or {X : Cx} {st : Stmt} {t t' : TS} (h : PS X st t) (h' : PS X st t') : PS X st (fun D σ H => t D σ H ∨ t' D σ H) := ⟨fun pins s σ H D I q => q.elim (h.run pins s σ H D I) (h'.run pins s σ H D I)⟩
theorem _root_.L2.PSs.or {X : Cx} {st : List Stmt} {t t' : TS} (h : PSs X st t) (h' : PSs X st t') : PSs X st (fun D σ H => t D σ H ∨ t' D σ H) := ⟨fun pins s σ H D I q => q.elim (h.run pins s σ H D I) (h'.run pins s σ H D I)⟩
section
variable {T : Tbl} {TX : XTbl} {XN : List Str} {EC : ETbl} {W : WX} {bts N : List Str} {sc : Scope} {X : Cx} {n : Nat} {R : Addr → Prop} {a : Addr} {H0 : Hp} {e : Expr} {c : CE} {pos : Pos}
theorem XW.of {σ : L2.St} {H : Hp} {O : Addr → Prop} {env : Env} {S S' : Strm} {x : Exc} (st : StR X.K R a H0 O σ H env S) (ev : exE T TX n c env S = some (x, S')) (po : PostX X.K EC W R a H0 x S') : XW T TX X.K EC W n c σ H :=
  ⟨_, a, env, S, x, S', st.at, ev, fun cls d H' xa k s => po cls d σ H' xa (st.kp.trans k) (s.mono fun _ => nO_le)⟩
end
end Ws

/-! WsH: what an except suite asks of the error that it holds; several clauses that name it. -/
namespace WsH
open PySem PySem.Spec PyProof.Rows L2

/-- what the class at C must say -/
structure HC (K : PySem.W.Frag) (C : Addr) : Prop where
  cl : (PySem.W.clsIn K C).isSome = true
  xf : XfC K C
  ha : PySem.W.findIn K (.ref C) "__class__" = some (some (.builtin "object.__class__"))
  hn : PySem.W.specialIn K (.builtin "object.__class__") "__get__" = some (some (.builtin "getset_descriptor.__get__"))
  ht : PySem.W.takesIn K (.builtin "object.__class__") = some true
  hm : PySem.W.mroIn K C (.type "object") = some true
/-! ### several clauses, each with a name -/
/-- one clause: the class's value, the name's slot, the suite's reading -/
abbrev Cl := Value × Nat × (Addr → Value → Option Addr → TS)
section
variable {X : Cx} {body : List Stmt} {hd : ExceptHandler} {hds : List ExceptHandler} {l : List Cl} {pos : Pos} {tb : WX → TS} {Wo : WX}
end
end WsH

/-! Ws72: except suites in short. -/
namespace Ws
open PySem PySem.Spec PyProof.Rows L2

inductive HE where
  | str (s : Str) | int (i : Int) | bl (b : Bool) | non
  | fld (f : Str) | isi (c : Str)
  | and (a b : HE) | ite (d a b : HE)
  | lst (l : List HE) | tup (l : List HE)
inductive HS where
  | ret (e : HE) | ifr (d e : HE)
/-- the errors' own names: field; which class is one of which -/
def fldN (c : Str) : Option Str := if c = "BadValue" then some "name" else if c = "TooLarge" then some "what" else if c = "NotPossible" then some "why" else none
def subN (c d : Str) : Option Bool := if (c = "BadValue" ∨ c = "TooLarge" ∨ c = "NotPossible") ∧ (d = "BadValue" ∨ d = "TooLarge" ∨ d = "NotPossible" ∨ d = "WishError" ∨ d = "ValueError") then some (decide (c = d ∨ d = "WishError" ∨ d = "ValueError")) else none
def hV (x : Exc) : Nat → HE → Option PV
  | 0, _ => none
  | n + 1, e => match e with
    | .str s => some (.str s)
    | .int i => some (.int i)
    | .bl b => some (.bl b)
    | .non => some .non
    | .fld f => if fldN x.1 = some f then some (.str x.2) else none
    | .isi c => (subN x.1 c).map .bl
    | .and a b => (hV x n a).bind fun r => match r with
      | .bl true => hV x n b
      | .bl false => some (.bl false)
      | _ => none
    | .ite d a b => (hV x n d).bind fun r => match r with
      | .bl true => hV x n a
      | .bl false => hV x n b
      | _ => none
    | .lst l => (hVs (fun e => hV x n e) l).map .lst
    | .tup l => (hVs (fun e => hV x n e) l).map .tup
where
  hVs (f : HE → Option PV) : List HE → Option (List PV)
    | [] => some []
    | e :: es => (f e).bind fun v => (hVs f es).map (v :: ·)
def hS (x : Exc) : List HS → Option PV
  | [] => none
  | .ret e :: _ => hV x 20 e
  | .ifr d e :: r => (hV x 20 d).bind fun b => match b with
    | .bl true => hV x 20 e
    | .bl false => hS x r
    | _ => none
section
variable (bts N DN : List Str) (sc : Scope) (i : Nat)
def chkHs (f : Expr → HE → Bool) : List Expr → List HE → Bool
  | [], [] => true
  | e :: es, c :: cs => notStar e && f e c && chkHs f es cs
  | _, _ => false
end
section
variable {bts N DN : List Str} {sc : Scope} {i : Nat} {X : Cx} {EC : ETbl} {x : Exc} {C dd a : Addr} {f : Str} {oe : Obj} {pn : List (Addr × Obj)}
/-- what stands when an expression of a suite is asked -/
structure HAt (K : PySem.W.Frag) (i : Nat) (x : Exc) (dd a : Addr) (f : Str) (R : Addr → Prop) (ad : Addr) (S : Strm) (σ : L2.St) (H : Hp) : Prop where
  fr : Fresh R ad H
  sr : SRel K R ad H S
  sl : σ[i]? = some (some (.ref a))
  dn : dd ≠ ad
  hd : H dd = some (.xd [(f, .str x.2)])
theorem HAt.keep {K : PySem.W.Frag} {R : Addr → Prop} {ad : Addr} {S : Strm} {σ : L2.St} {H H' : Hp} (h : HAt K i x dd a f R ad S σ H) (k : Keep ad H H') (s : SRel K R ad H' S) : HAt K i x dd a f R ad S σ H' := ⟨h.fr.keep k, s, h.sl, h.dn, k.1 _ _ h.hd h.dn⟩
def tH (K : PySem.W.Frag) (i : Nat) (x : Exc) (dd a : Addr) (f : Str) (n : Nat) (e : HE) : TE := fun σ H Q => ∃ R ad S y, HAt K i x dd a f R ad S σ H ∧ hV x n e = some y ∧ ∀ v H', Keep ad H H' → SRel K R ad H' S → Rep K R ad H' v y → Q v H'
def tHs (K : PySem.W.Frag) (i : Nat) (x : Exc) (dd a : Addr) (f : Str) (n : Nat) (l : List HE) : TA := fun σ H Q => ∃ R ad S ys, HAt K i x dd a f R ad S σ H ∧ hV.hVs (fun e => hV x n e) l = some ys ∧ ∀ vs H', Keep ad H H' → SRel K R ad H' S → Reps K R ad H' vs ys → Q vs H'
theorem hpa {Y : Cx} {n : Nat} {ck : Expr → HE → Bool} (ih : ∀ e c, ck e c = true → PE Y e (tH Y.K i x dd a f n c)) : ∀ (es : List Expr) (cs : List HE), chkHs ck es cs = true → PA Y es (tHs Y.K i x dd a f n cs)
  | [], [], _ => pa_nil.imp fun σ H Q h => by
    obtain ⟨R, ad, S, ys, h1, h2, q⟩ := h
    simp only [hV.hVs, Option.some.injEq] at h2
    subst h2
    exact q [] H Keep.refl h1.sr .nil
  | e :: es, c :: cs, h => by
    simp only [chkHs, Bool.and_eq_true] at h
    refine (pa_cons (ih e c h.1.2) (hpa ih es cs h.2) (star1 h.1.1)).imp fun σ H Q hq => ?_
    obtain ⟨R, ad, S, ys, h1, h2, q⟩ := hq
    simp only [hV.hVs, Option.bind_eq_some_iff, Option.map_eq_some_iff] at h2
    obtain ⟨y, e1, zs, e2, rfl⟩ := h2
    exact ⟨R, ad, S, y, h1, e1, fun v H1 k1 s1 r1 => ⟨R, ad, S, zs, h1.keep k1 s1, e2, fun vs H2 k2 s2 r2 => q _ _ (k1.trans k2) s2 (.cons (r1.keep k2) r2)⟩⟩
  | [], _ :: _, h => by simp [chkHs] at h
  | _ :: _, [], h => by simp [chkHs] at h
end
end Ws

/-! Ws73: defs that raise; a def that tries. -/
namespace Ws
open PySem PySem.Spec PyProof.Rows L2

/-! ### suites -/
section
variable {bts N DN : List Str} {sc : Scope} {i : Nat} {X : Cx} {EC : ETbl} {x : Exc} {C dd a : Addr} {f : Str} {oe : Obj} {pn : List (Addr × Obj)}
end
/-! ### tables -/
section
variable {P : Program} {w : World} {K : PySem.W.Frag} {mg : Str → Option Value} {base : Heap}
structure TOkX (P : Program) (w : World) (K : PySem.W.Frag) (mg : Str → Option Value) (base : Heap) (T : Tbl) (TX : XTbl) (XN DN : List Str) (EC : ETbl) (bts : List Str) (k : Nat) : Prop where
  t : TOk P w K mg base T bts k
  xs : ∀ f ψ, TX f = some ψ → ∃ p fd ps j, ps.length = ψ.1 ∧ mg f = some (.ref p) ∧ PySem.W.keepIn K (.ref p) = true ∧ Binds K fd ps [] ∧ FnOk P w K mg base (L2.CX P w) j p fd ps (spX K EC ψ.1 ψ.2) ∧ j ≤ k
  rs : ∀ c ∈ XN, ∃ C f y fI, EC c = some (C, f) ∧ mg c = some (.ref C) ∧ WsI.IniT P K y f C fI
  ck : (∀ c C f, EC c = some (C, f) → fldN c = some f ∧ WsH.HC K C ∧ PySem.W.findIn K (.ref C) f = some none) ∧ mg "ValueError" = none ∧ (("ValueError" : Str) ∈ DN → ∀ c C f, EC c = some (C, f) → PySem.W.kitOne K (.ref C) (.type "ValueError") = some true) ∧
    ∀ d ∈ DN, d ≠ "ValueError" → ∃ p, mg d = some (.ref p) ∧ ∀ c C f b, EC c = some (C, f) → subN c d = some b → PySem.W.kitOne K (.ref C) (.ref p) = some b ∧ PySem.W.exmOne K (.ref C) (.ref p) = some b
  two : 2 ≤ k
theorem TOkX.le {T : Tbl} {TX : XTbl} {XN DN : List Str} {EC : ETbl} {bts : List Str} {k k' : Nat} (t : TOkX P w K mg base T TX XN DN EC bts k) (h : k ≤ k') : TOkX P w K mg base T TX XN DN EC bts k' :=
  ⟨t.t.le h, fun f ψ e => let ⟨p, fd, ps, j, h0, h1, h2, h3, h4, h5⟩ := t.xs f ψ e; ⟨p, fd, ps, j, h0, h1, h2, h3, h4, Nat.le_trans h5 h⟩, t.rs, t.ck, Nat.le_trans t.two h⟩
def XTbl.add (TX : XTbl) (f : Str) (n : Nat) (ψ : XFn) : XTbl := fun x => if x = f then some (n, ψ) else TX x
theorem TOkX.add {T : Tbl} {TX : XTbl} {XN DN : List Str} {EC : ETbl} {bts : List Str} {k : Nat} (t : TOkX P w K mg base T TX XN DN EC bts k) {f : Str} {n : Nat} {φ : Fn} {ψ : XFn} {p : Addr} {fd : FuncData} {ps : List Str} (hl : ps.length = n) (hm : mg f = some (.ref p)) (hk : PySem.W.keepIn K (.ref p) = true) (hb : Binds K fd ps []) (F : FnOk P w K mg base CX0 k p fd ps (spF K n φ)) (FX : FnOk P w K mg base (L2.CX P w) k p fd ps (spX K EC n ψ)) :
    TOkX P w K mg base (T.add f n φ) (TX.add f n ψ) XN DN EC bts k := by
  refine ⟨t.t.add hl hm hk hb F, fun g χ e => ?_, t.rs, t.ck, t.two⟩
  unfold XTbl.add at e
  split at e
  · rename_i h
    subst h
    simp only [Option.some.injEq] at e
    subst e
    exact ⟨p, fd, ps, k, hl, hm, hk, hb, FX, Nat.le_refl _⟩
  · exact t.xs g χ e
/-! ### a def that tries -/
section
variable (T : Tbl) (TX : XTbl) (XN : List Str)
end
end
end Ws
namespace Ws
open PySem
/-! ### the parts of a text -/
end Ws

/-! Ws75: what raises, worked out step by step. -/
namespace Ws
open PySem PySem.Spec L2

section
variable {T : Tbl} {TX : XTbl} {XN : List Str} {D : List Str}
variable {ex : CS → Env → Strm → Option (Exc × Strm)} {ev : CS → Env → Strm → Option (Fl × Strm)} {c : CS} {cs : List CS} {env env' : Env} {S S' : Strm} {r : Exc × Strm}
end
end Ws

/-! Ws76: greatest_amounts, count_amounts, most_beside; _law_bounds, _law_go. -/
namespace Ws
open PySem PySem.Spec L2

/-- whole numbers from i up to less than j -/
def rgI (i j : Int) : List Int := (List.range (j - i).toNat).map fun (k : Nat) => i + (k : Int)
theorem mem_rg {i j x : Int} : x ∈ rgI i j ↔ i ≤ x ∧ x < j := by
  unfold rgI
  rw [List.mem_map]
  constructor
  · rintro ⟨k, hk, rfl⟩
    rw [List.mem_range] at hk
    omega
  · rintro ⟨h1, h2⟩
    exact ⟨(x - i).toNat, by rw [List.mem_range]; omega, by omega⟩
/-- two pairs of a net, and their bounds -/
structure Bd (n : Int) (ls : List Lk) (p q : Int × Int) (a b c : Int) : Prop where
  g : GoodNet n ls
  hp : p ∈ pairsL n
  hq : q ∈ pairsL n
  hne : q ≠ p
  l1 : ∃ f F, Lst n ls [p] a f F
  l2 : ∃ f F, Lst n ls [q] b f F
  l3 : ∃ f F, Lst n ls [p, q] c f F
  a0 : 0 ≤ a
  b0 : 0 ≤ b
  ac : a ≤ c
  bc : b ≤ c
  sm : c ≤ a + b
  a36 : a ≤ 36
  b36 : b ≤ 36
def BoundsBOk (φ : Fn) : Prop := ∀ n ls p q a b c S, Bd n ls p q a b c → φ [netV n ls, pairV p, pairV q] S = some (.ret (.tup [.int a, .int b, .int c]), S)
theorem BoundsOk.b {φ : Fn} (h : BoundsOk φ) : BoundsBOk φ := by
  intro n ls p q a b c S d
  obtain ⟨f1, F1, l1⟩ := d.l1
  obtain ⟨f2, F2, l2⟩ := d.l2
  obtain ⟨f3, F3, l3⟩ := d.l3
  exact h n ls p q S a b c f1 f2 f3 F1 F2 F3 d.g d.hp d.hq d.hne l1 l2 l3
/-! ### most_beside -/
section
variable {T : Tbl} {TX : XTbl} {n : Int} {ls : List Lk} {p q : Int × Int} {a b c x : Int} {S : Strm}
theorem seqn {ev : CS → Env → Strm → Option (Fl × Strm)} {c : CS} {cs : List CS} {env e' : Env} {S S' : Strm} (h : ev c env S = some (.nx e', S')) : seqL ev (c :: cs) env S = seqL ev cs e' S' := by rw [s_cons, h, Option.bind_some, then_nx]
theorem seqr {ev : CS → Env → Strm → Option (Fl × Strm)} {c : CS} {cs : List CS} {env : Env} {x : PV} {S S' : Strm} (h : ev c env S = some (.rt x, S')) : seqL ev (c :: cs) env S = some (.rt x, S') := by rw [s_cons, h, Option.bind_some, then_rt]
end
end Ws

/-! Ws55: points renamed: is_order, moved (what it must give), renamed. -/
namespace Ws
open PySem PySem.Spec L2

end Ws

/-! Ws56: the law's doubled total (k53). -/
namespace Ws
open PySem PySem.Spec L2

end Ws

/-! Ws57: the law's net, of widths bounded (k53). -/
namespace Ws
open PySem PySem.Spec L2

structure Oq (n m : Int) (ls : List Lk) : Prop where
  wid : ∀ r ∈ ls, goodLk n m r = true
  ne : ls.Pairwise fun a b => ¬ (a.1 = b.1 ∧ a.2.1 = b.2.1)
theorem Oq.le {n m : Int} {ls : List Lk} (o : Oq n m ls) : ∀ r ∈ ls, r.2.2 ≤ m := fun r hr => by
  have := o.wid r hr
  unfold goodLk at this
  simp only [Bool.and_eq_true, decide_eq_true_eq] at this
  omega
theorem Oq.ow {n m : Int} {ls : List Lk} (o : Oq n m ls) (h : m ≤ 6) : Ow n ls := ⟨fun r hr => by
  have := o.wid r hr
  unfold goodLk at *
  simp only [Bool.and_eq_true, decide_eq_true_eq] at *
  omega, o.ne⟩
end Ws

/-! Ws58: what `moved` sums up, when no two pairs meet: mathematics. -/
namespace Ws
open PySem PySem.Spec L2

abbrev KV2 := List ((Int × Int) × Int)
def getI (kvs : KV2) (k : Int × Int) : Int := ((kvs.find? fun p => decide (p.1 = k)).map fun p => p.2).getD 0
def putI (kvs : KV2) (k : Int × Int) (v : Int) : KV2 := if (kvs.any fun p => decide (p.1 = k)) = true then kvs.map fun p => if p.1 = k then (p.1, v) else p else kvs ++ [(k, v)]
def keyR (o : List Int) (r : Lk) : Int × Int := (min (at_ o r.1) (at_ o r.2.1), max (at_ o r.1) (at_ o r.2.1))
def stepS (o : List Int) (kvs : KV2) (r : Lk) : KV2 := if (keyR o r).1 < (keyR o r).2 then putI kvs (keyR o r) (getI kvs (keyR o r) + r.2.2) else kvs
def sumsK (o : List Int) (ls : List Lk) : KV2 := ls.foldl (stepS o) []
def le2 (a b : Int × Int) : Bool := decide (a.1 < b.1 ∨ (a.1 = b.1 ∧ a.2 ≤ b.2))
def resK (kvs : KV2) : List Lk := (isort le2 (kvs.map fun p => p.1)).map fun k => (k.1, k.2, getI kvs k)
theorem le2_total : PySem.W.TotalLe le2 where
  total r s := by
    unfold le2
    rcases (by omega : (r.1 < s.1 ∨ (r.1 = s.1 ∧ r.2 ≤ s.2)) ∨ (s.1 < r.1 ∨ (s.1 = r.1 ∧ s.2 ≤ r.2))) with h | h
    · exact .inl (decide_eq_true h)
    · exact .inr (decide_eq_true h)
  trans a b c h1 h2 := by
    unfold le2 at *
    have h1 := of_decide_eq_true h1
    have h2 := of_decide_eq_true h2
    exact decide_eq_true (by omega)
end Ws

/-! Ws59: a store into a dict with tuple keys leaves all values where they are. -/
namespace Ws
open PySem PySem.Spec PyProof.Rows L2

section
variable {K : PySem.W.Frag} {R : Addr → Prop} {a p : Addr} {H : Hp} {kvs kvs' : List (List L2.Key × V)}
end
end Ws

/-! Ws60: a turn of the loop of moved. -/
namespace Ws
open PySem PySem.Spec PyProof.Rows L2

/-- all but the dict stays -/
def KeepX (a p : Addr) (H H' : Hp) : Prop := (∀ b o, H b = some o → b ≠ a → b ≠ p → H' b = some o) ∧ (∀ b, H b ≠ none → H' b ≠ none) ∧ ∀ q r, H a = some (.lst (.ref q :: r)) → ∃ r', H' a = some (.lst (.ref q :: r'))
theorem KeepX.of {a p : Addr} {H H' : Hp} (k : Keep a H H') : KeepX a p H H' := ⟨fun b o h n _ => k.1 b o h n, k.2.1, k.2.2⟩
theorem KeepX.trans {a p : Addr} {H H1 H2 : Hp} (x : KeepX a p H H1) (y : KeepX a p H1 H2) : KeepX a p H H2 :=
  ⟨fun b o h n m => y.1 b o (x.1 b o h n m) n m, fun b h => y.2.1 b (x.2.1 b h), fun q r h => let ⟨r', h'⟩ := x.2.2 q r h; y.2.2 q r' h'⟩
section
variable {T : Tbl} {K : PySem.W.Frag} {R : Addr → Prop} {a p : Addr} {H : Hp} {σ : L2.St} {S : Strm} {x0 x6 x7 : Option PV} {V1 : PV} {o : List Int} {i j w : Int} {kvs : KV2} {D : Ends}
end
end Ws

/-! Ws61: the loop of moved. -/
namespace Ws
open PySem PySem.Spec PyProof.Rows L2

section
variable {K : PySem.W.Frag} {R : Addr → Prop} {a p : Addr} {H H' : Hp} {kvs : List (List L2.Key × V)}
end
theorem stepS_len (o : List Int) (kvs : KV2) (r : Lk) : (stepS o kvs r).length ≤ kvs.length + 1 := by
  unfold stepS putI
  split
  · split
    · rw [List.length_map]; omega
    · rw [List.length_append]; simp
  · omega
theorem fold_len (o : List Int) : ∀ (ls : List Lk) (kvs : KV2), (ls.foldl (stepS o) kvs).length ≤ kvs.length + ls.length
  | [], kvs => by simp
  | r :: ls, kvs => by
    rw [List.foldl_cons, List.length_cons]
    have := fold_len o ls (stepS o kvs r)
    have := stepS_len o kvs r
    omega
section
variable {T : Tbl} {K : PySem.W.Frag} {R : Addr → Prop} {a p : Addr} {H : Hp} {σ : L2.St} {S : Strm} {V1 : PV} {o : List Int} {ls : List Lk} {D : Ends}
end
end Ws

/-! WsE: sorted of a dict whose keys are tuples. -/
namespace Ws
open PySem PySem.Spec PyProof.Rows L2 PySem.W PySem.Calls

section
variable {prog : Program} {w : World} {A : Around} {E : Value → Shared → Prop} {s : Shared} {β : Type} {vs : List Value} {bs : List β} {enc : β → PyData} {R : Value → β → Prop}
end
end Ws

/-! Ws62: the sums of moved, sorted. -/
namespace Ws
open PySem PySem.Spec PyProof.Rows L2

theorem pairs_asPts (l : List (Int × Int)) : l.map pairV = (l.map fun k => [k.1, k.2]).map ptsV := by
  rw [List.map_map]; rfl
theorem leL_two (x y : Int × Int) : leL [x.1, x.2] [y.1, y.2] = le2 x y := by
  unfold leL le2
  rw [← decide_not]
  refine decide_eq_decide.mpr ?_
  simp only [List.cons_lt_cons_iff, List.lt_irrefl, and_false, or_false]
  omega
theorem srt_pairs (l : List (Int × Int)) : srtV (l.map pairV) = some ((isort le2 l).map pairV) := by
  rw [pairs_asPts, srt_pts, pairs_asPts]
  congr 1
  congr 1
  exact (isort_map (fun k : Int × Int => [k.1, k.2]) (fun x y => (leL_two x y).symm) l).symm
end Ws

/-! Ws63: what moved returns: the comprehension over the sorted sums. -/
namespace Ws
open PySem PySem.Spec PyProof.Rows L2

section
variable {T : Tbl} {K : PySem.W.Frag} {R : Addr → Prop} {a p : Addr} {H : Hp} {σ : L2.St} {S : Strm} {kvs : KV2} {x0 x1 x3 x4 x5 x6 x7 : Option PV} {Q : VK}
end
end Ws

/-! Ws64: the statements of moved. -/
namespace Ws
open PySem PySem.Spec PyProof.Rows L2

section
variable {T : Tbl} {bts N : List Str} {sc : Scope} {X : Cx}
end
end Ws

/-! Ws65: moved, by its text. -/
namespace Ws
open PySem PySem.Spec PyProof.Rows L2

end Ws

/-! Ws66: moved, a def. -/
namespace Ws
open PySem PySem.Spec PyProof.Rows L2

section
variable {P : Program} {w : World} {K : PySem.W.Frag} {mg : Str → Option Value} {base : Heap}
end
end Ws

/-! Ws67: moved and renamed, where the stream is there. -/
namespace Ws
open PySem PySem.Spec L2

end Ws

/-! Ws78: what `moved` sums up, when pairs may meet: mathematics. -/
namespace Ws
open PySem PySem.Spec L2

def sumAt (o : List Int) (ls : List Lk) (k : Int × Int) : Int := ((ls.filter fun r => decide (keyR o r = k)).map fun r => r.2.2).sum
def hasK (o : List Int) (ls : List Lk) (k : Int × Int) : Bool := ls.any fun r => decide (keyR o r = k)
structure Inv (o : List Int) (ls : List Lk) (kvs : KV2) : Prop where
  nd : (kvs.map fun p => p.1).Nodup
  mem : ∀ k, k ∈ kvs.map (fun p => p.1) ↔ hasK o ls k = true ∧ k.1 < k.2
  val : ∀ k, k.1 < k.2 → getI kvs k = sumAt o ls k
theorem sumAt_snoc {o : List Int} {ls : List Lk} {r : Lk} {k : Int × Int} : sumAt o (ls ++ [r]) k = sumAt o ls k + if keyR o r = k then r.2.2 else 0 := by
  unfold sumAt
  rw [List.filter_append, List.map_append, List.sum_append, List.filter_cons, List.filter_nil]
  by_cases e : keyR o r = k
  · rw [decide_eq_true e, if_pos rfl, if_pos e]; simp
  · rw [decide_eq_false e, if_neg Bool.false_ne_true, if_neg e]; simp
theorem hasK_snoc {o : List Int} {ls : List Lk} {r : Lk} {k : Int × Int} : hasK o (ls ++ [r]) k = (hasK o ls k || decide (keyR o r = k)) := by
  unfold hasK
  rw [List.any_append]; simp
theorem any_mem {kvs : KV2} {k : Int × Int} : (kvs.any fun p => decide (p.1 = k)) = true ↔ k ∈ kvs.map fun p => p.1 := by
  rw [List.any_eq_true, List.mem_map]
  constructor
  · rintro ⟨p, h1, h2⟩; exact ⟨p, h1, of_decide_eq_true h2⟩
  · rintro ⟨p, h1, h2⟩; exact ⟨p, h1, decide_eq_true h2⟩
theorem keys_upd {k : Int × Int} {v : Int} {kvs : KV2} : (kvs.map fun p => if p.1 = k then (p.1, v) else p).map (fun p => p.1) = kvs.map fun p => p.1 := by
  rw [List.map_map]
  refine List.map_congr_left fun p _ => ?_
  show (if p.1 = k then (p.1, v) else p).1 = p.1
  split <;> rfl
theorem getI_cons {p : (Int × Int) × Int} {kvs : KV2} {k : Int × Int} : getI (p :: kvs) k = if p.1 = k then p.2 else getI kvs k := by
  unfold getI
  rw [List.find?_cons]
  by_cases e : p.1 = k
  · rw [decide_eq_true e, if_pos e]; rfl
  · rw [decide_eq_false e, if_neg e]
theorem getI_upd {k k' : Int × Int} {v : Int} : ∀ {kvs : KV2}, getI (kvs.map fun p => if p.1 = k then (p.1, v) else p) k' = if k' = k ∧ k ∈ kvs.map (fun p => p.1) then v else getI kvs k'
  | [] => by rw [if_neg (by simp)]; rfl
  | p :: kvs => by
    rw [List.map_cons, getI_cons, getI_cons, getI_upd, List.map_cons]
    by_cases e : p.1 = k
    · rw [if_pos e]
      by_cases e2 : p.1 = k'
      · rw [if_pos (show (p.1, v).1 = k' from e2), if_pos ⟨by rw [← e2, e], by rw [e]; exact List.mem_cons_self⟩]
      · rw [if_neg (show ¬ (p.1, v).1 = k' from e2), if_neg e2]
        rw [if_neg (fun z => e2 (by rw [e, z.1])), if_neg (fun z => e2 (by rw [e, z.1]))]
    · rw [if_neg e]
      by_cases e2 : p.1 = k'
      · rw [if_pos e2, if_pos e2, if_neg (fun z => e (by rw [e2, z.1]))]
      · rw [if_neg e2, if_neg e2]
        by_cases c : k' = k ∧ k ∈ kvs.map fun p => p.1
        · rw [if_pos c, if_pos ⟨c.1, List.mem_cons_of_mem _ c.2⟩]
        · rw [if_neg c, if_neg fun z => c ⟨z.1, (List.mem_cons.mp z.2).resolve_left fun q => e q.symm⟩]
theorem getI_app {k k' : Int × Int} {v : Int} : ∀ {kvs : KV2}, k ∉ kvs.map (fun p => p.1) → getI (kvs ++ [(k, v)]) k' = if k' = k then v else getI kvs k'
  | [], _ => by
    rw [List.nil_append, getI_cons]
    by_cases e : k' = k
    · rw [if_pos (show k = k' from e.symm), if_pos e]
    · rw [if_neg (fun z => e z.symm), if_neg e]
  | p :: kvs, h => by
    rw [List.map_cons] at h
    have h2 := getI_app (k := k) (k' := k') (v := v) (kvs := kvs) fun z => h (List.mem_cons_of_mem _ z)
    rw [List.cons_append, getI_cons, getI_cons, h2]
    by_cases e : p.1 = k'
    · rw [if_pos e, if_pos e, if_neg fun z => h (by rw [← z, ← e]; exact List.mem_cons_self)]
    · rw [if_neg e, if_neg e]
theorem inv_step {o : List Int} {ls : List Lk} {kvs : KV2} {r : Lk} (h : Inv o ls kvs) : Inv o (ls ++ [r]) (stepS o kvs r) := by
  unfold stepS
  by_cases lt : (keyR o r).1 < (keyR o r).2
  · rw [if_pos lt]
    unfold putI
    have vl := h.val (keyR o r) lt
    cases ha : kvs.any fun p => decide (p.1 = keyR o r) with
    | true =>
      have hm := any_mem.mp ha
      rw [if_pos rfl]
      refine ⟨by rw [keys_upd]; exact h.nd, fun k => ?_, fun k hk => ?_⟩
      · rw [keys_upd, h.mem, hasK_snoc, Bool.or_eq_true, decide_eq_true_eq]
        constructor
        · rintro ⟨a, b⟩; exact ⟨.inl a, b⟩
        · rintro ⟨a | a, b⟩
          · exact ⟨a, b⟩
          · subst a; exact ⟨((h.mem _).mp hm).1, b⟩
      · rw [getI_upd, sumAt_snoc]
        by_cases e : k = keyR o r
        · subst e
          rw [if_pos ⟨rfl, hm⟩, if_pos rfl, vl]
        · rw [if_neg (fun z => e z.1), if_neg (fun z => e z.symm), h.val k hk, Int.add_zero]
    | false =>
      have hm : keyR o r ∉ kvs.map fun p => p.1 := fun z => by rw [any_mem.mpr z] at ha; cases ha
      rw [if_neg Bool.false_ne_true]
      refine ⟨?_, fun k => ?_, fun k hk => ?_⟩
      · rw [List.map_append]
        refine List.nodup_append.mpr ⟨h.nd, by simp, fun a ha b hb z => ?_⟩
        simp only [List.map_cons, List.map_nil, List.mem_singleton] at hb
        subst hb; subst z; exact hm ha
      · rw [List.map_append, List.mem_append, h.mem, hasK_snoc, Bool.or_eq_true, decide_eq_true_eq]
        simp only [List.map_cons, List.map_nil, List.mem_singleton]
        constructor
        · rintro (⟨a, b⟩ | a)
          · exact ⟨.inl a, b⟩
          · subst a; exact ⟨.inr rfl, lt⟩
        · rintro ⟨a | a, b⟩
          · exact .inl ⟨a, b⟩
          · exact .inr a.symm
      · rw [getI_app hm, sumAt_snoc]
        by_cases e : k = keyR o r
        · subst e
          rw [if_pos rfl, if_pos rfl, vl]
        · rw [if_neg e, if_neg (fun z => e z.symm), h.val k hk, Int.add_zero]
  · rw [if_neg lt]
    refine ⟨h.nd, fun k => ?_, fun k hk => ?_⟩
    · rw [h.mem, hasK_snoc, Bool.or_eq_true, decide_eq_true_eq]
      constructor
      · rintro ⟨a, b⟩; exact ⟨.inl a, b⟩
      · rintro ⟨a | a, b⟩
        · exact ⟨a, b⟩
        · subst a; exact absurd b lt
    · rw [sumAt_snoc, if_neg (fun z => lt (by rw [z]; exact hk)), h.val k hk, Int.add_zero]
theorem inv_fold {o : List Int} : ∀ {ls done : List Lk} {kvs : KV2}, Inv o done kvs → Inv o (done ++ ls) (ls.foldl (stepS o) kvs)
  | [], done, kvs, h => by rw [List.append_nil]; exact h
  | r :: ls, done, kvs, h => by
    have := inv_fold (ls := ls) (inv_step (r := r) h)
    rw [List.append_assoc] at this
    exact this
theorem inv_sums {o : List Int} {ls : List Lk} : Inv o ls (sumsK o ls) := by
  have := inv_fold (o := o) (ls := ls) (done := []) (kvs := []) ⟨by simp, fun k => by simp [hasK], fun k _ => rfl⟩
  exact this
/-- the pairs of points below m, in order -/
def prsI (m : Int) : List (Int × Int) := (rngI m).flatMap fun lo => (rgI (lo + 1) m).map fun hi => (lo, hi)
theorem mem_prs {m : Int} {k : Int × Int} : k ∈ prsI m ↔ 0 ≤ k.1 ∧ k.1 < k.2 ∧ k.2 < m := by
  unfold prsI
  simp only [List.mem_flatMap, List.mem_map, mem_rngI, mem_rg]
  constructor
  · rintro ⟨lo, ⟨h1, h2⟩, hi, ⟨h3, h4⟩, rfl⟩
    dsimp only
    omega
  · rintro ⟨h1, h2, h3⟩
    exact ⟨k.1, by omega, k.2, by omega, rfl⟩
abbrev ltQ (a b : Int × Int) : Prop := a.1 < b.1 ∨ (a.1 = b.1 ∧ a.2 < b.2)
theorem ltQ_asymm {a b : Int × Int} (h : ltQ a b) (h2 : ltQ b a) : False := by unfold ltQ at *; omega
theorem rgI_pw {i j : Int} : (rgI i j).Pairwise (· < ·) := by
  unfold rgI
  exact List.pairwise_map.mpr (List.pairwise_lt_range.imp fun {a b} h => by omega)
theorem prs_pw {m : Int} : (prsI m).Pairwise ltQ := by
  unfold prsI
  have : ∀ l : List Int, l.Pairwise (· < ·) → (l.flatMap fun lo => (rgI (lo + 1) m).map fun hi => (lo, hi)).Pairwise ltQ := by
    intro l
    induction l with
    | nil => intro _; exact .nil
    | cons x l ih =>
      intro h
      obtain ⟨h1, h2⟩ := List.pairwise_cons.mp h
      rw [List.flatMap_cons]
      refine List.pairwise_append.mpr ⟨List.pairwise_map.mpr (rgI_pw.imp fun {a b} q => .inr ⟨rfl, q⟩), ih h2, fun a ha b hb => ?_⟩
      obtain ⟨i, _, rfl⟩ := List.mem_map.mp ha
      obtain ⟨y, hy, hb⟩ := List.mem_flatMap.mp hb
      obtain ⟨j, _, rfl⟩ := List.mem_map.mp hb
      exact .inl (h1 y hy)
  exact this _ rngI_pw
theorem ltQ_nd {l : List (Int × Int)} (h : l.Pairwise ltQ) : l.Nodup := h.imp fun {a b} q e => by subst e; exact ltQ_asymm q q
theorem pw_uniq2 : ∀ {a b : List (Int × Int)}, a.Pairwise ltQ → b.Pairwise ltQ → (∀ z, z ∈ a ↔ z ∈ b) → a = b
  | [], [], _, _, _ => rfl
  | [], y :: b, _, _, h => by have := (h y).mpr List.mem_cons_self; simp at this
  | x :: a, [], _, _, h => by have := (h x).mp List.mem_cons_self; simp at this
  | x :: a, y :: b, ha, hb, h => by
    have na := List.nodup_cons.mp (ltQ_nd ha)
    have nb := List.nodup_cons.mp (ltQ_nd hb)
    obtain ⟨a1, a2⟩ := List.pairwise_cons.mp ha
    obtain ⟨b1, b2⟩ := List.pairwise_cons.mp hb
    have e : x = y := by
      rcases List.mem_cons.mp ((h x).mp List.mem_cons_self) with e | m
      · exact e
      · rcases List.mem_cons.mp ((h y).mpr List.mem_cons_self) with e | m'
        · exact e.symm
        · exact (ltQ_asymm (b1 x m) (a1 y m')).elim
    subst e
    congr 1
    refine pw_uniq2 a2 b2 fun z => ?_
    constructor
    · intro m
      rcases List.mem_cons.mp ((h z).mp (List.mem_cons_of_mem _ m)) with e | m'
      · subst e; exact absurd m na.1
      · exact m'
    · intro m
      rcases List.mem_cons.mp ((h z).mpr (List.mem_cons_of_mem _ m)) with e | m'
      · subst e; exact absurd m nb.1
      · exact m'
/-- what the links give, when each point goes to its place below m -/
def joinL (m : Int) (o : List Int) (ls : List Lk) : List Lk := ((prsI m).filter (hasK o ls)).map fun k => (k.1, k.2, sumAt o ls k)
theorem res_join {m : Int} {o : List Int} {ls : List Lk} (hk : ∀ r ∈ ls, 0 ≤ (keyR o r).1 ∧ (keyR o r).2 < m) : resK (sumsK o ls) = joinL m o ls := by
  have I := inv_sums (o := o) (ls := ls)
  have ke : isort le2 ((sumsK o ls).map fun p => p.1) = (prsI m).filter (hasK o ls) := by
    have pm := isort_perm le2 ((sumsK o ls).map fun p => p.1)
    refine pw_uniq2 ?_ (prs_pw.filter _) fun z => ?_
    · have pw := isort_pw le2_total ((sumsK o ls).map fun p => p.1)
      have pn := pm.nodup_iff.mpr I.nd
      refine (pw.and pn).imp fun {a b} h => ?_
      have h1 := of_decide_eq_true h.1
      have h2 : ¬ (a.1 = b.1 ∧ a.2 = b.2) := fun z => h.2 (Prod.ext z.1 z.2)
      unfold ltQ
      omega
    · rw [pm.mem_iff, I.mem, List.mem_filter, mem_prs]
      constructor
      · rintro ⟨h1, h2⟩
        have h1' := h1
        unfold hasK at h1'
        obtain ⟨r, hr, e⟩ := List.any_eq_true.mp h1'
        have e := of_decide_eq_true e
        have := hk r hr
        rw [e] at this
        exact ⟨⟨this.1, h2, this.2⟩, h1⟩
      · rintro ⟨⟨h1, h2, h3⟩, h4⟩
        exact ⟨h4, h2⟩
  unfold resK joinL
  rw [ke]
  refine List.map_congr_left fun k hk' => ?_
  have := (mem_prs.mp (List.mem_filter.mp hk').1).2.1
  rw [I.val k this]
theorem join_len {m : Int} {o : List Int} {ls : List Lk} (hk : ∀ r ∈ ls, 0 ≤ (keyR o r).1 ∧ (keyR o r).2 < m) : (joinL m o ls).length ≤ ls.length := by
  rw [← res_join hk]
  unfold resK
  rw [List.length_map, (isort_perm le2 _).length_eq, List.length_map]
  have := fold_len o ls []
  simpa [sumsK] using this
end Ws

/-! Ws79: points renamed and put together, by the program and by the laws. -/
namespace Ws
open PySem PySem.Spec L2

/-! ### has_more -/
/-! ### fence_of -/
/-! ### the laws' own -/
end Ws

/-! Ws80: the links of a net whose points are put together, as the law counts them. -/
namespace Ws
open PySem PySem.Spec L2

abbrev J2 : List CS := [.asg (.nm 7) (.comp (.idx (.var 8) (.int 2)) (.nm 8) (.seq (.var 1)) (some (.cmp .eq (.bi .sorted [(.lst [(.call "_law_new" [(.idx (.var 8) (.int 0)), (.var 2), (.var 3)]), (.call "_law_new" [(.idx (.var 8) (.int 1)), (.var 2), (.var 3)])])]) (.lst [(.var 5), (.var 6)]))) [("link", 8)]), .ife (.var 7) [.app 4 (.tup [(.var 5), (.var 6), (.bi .sum [(.var 7)])])] []]
abbrev J1 : List CS := [.for_ (.nm 6) (.rng2 (.bin .add (.var 5) (.int 1)) (.bin .sub (.var 0) (.int 1))) J2]
section
variable {T : Tbl} {n a b lo hi : Int} {ls F : List Lk} {S : Strm} {x5 x6 x7 : Option PV} {φ : Fn}
end
end Ws

/-! Ws81: two points put together, by the program and by the law. -/
namespace Ws
open PySem PySem.Spec L2

section
variable {T : Tbl} {n a b : Int} {ls ws : List Lk} {S : Strm} {x0 x1 x2 x3 x4 x5 x6 x7 x8 x9 : Option PV} {φ : Fn}
abbrev pE (n a b : Int) (ls ws : List Lk) (x4 x5 x6 x7 x8 : Option PV) : Env := [some (netV n ls), some (wsV ws), some (.int a), some (.int b), x4, x5, x6, x7, x8, none]
theorem pt2 : evS T FU (.asg (.tp [4, 5]) (.var 0)) (pE n a b ls ws x4 x5 x6 x7 x8) S = some (.nx (pE n a b ls ws (some (.int n)) (some (.tup (ls.map lk))) x6 x7 x8), S) := by
  unfold pE netV
  simp only [evF_end, end_nx, end_rt, FU, e_non, e_bl, e_int, e_str, e_ty, e_var, getV_some, e_glo, e_tup, e_lst, e_bin, e_neg, negV_int, e_not, e_and, e_or, andV_bl, orV_bl, and_pure, or_pure, e_cmp, e_chain, e_ite, e_idx, e_sli, e_gcd, e_sset, gcdV_int, e_call, callR_ret, e_bi, e_comp, l_nil, l_cons, s_nil, s_cons, then_nx, then_rt, turn_eq, ife_t, ife_f, ifeG_eq, c_asg, c_ret, c_retO, c_exp, c_ife, c_for, c_asgO, c_app, c_sset, g0, gS, st0, stS, thaw_tup, thaw_lst, thaw_own, thaw_int, thaw_bl, thaw_str, thaw_non, thaw_stm, own_tup, own_lst, own_own, own_int, own_bl, own_str, own_non, own_ty, own_stm, tru_bl, tru_int, seq_tup, seq_lst, seq_own, lst_lst, lst_own, add_int, sub_int, eq_int, ne_int, lt_int', le_int', gt_int', ge_int', ne_bl, eq_bl, idx_tup, idx_lst, idx_own, len_1, all_1, any_1, sum_1, tuple_1, list_1, sorted_1, int_1, abs_1, type_1, bind_nm, bind_tp, bind_ns, bind_tpl, min1_1, max1_1, mind_1, min2_1, max2_1, it_enum, enumB_lst, c_par, it_seq, it_rng1, it_rng2, rngA_int, rngB_int, it_zip, zip_tup, zip_lst, par_none, par_some, parB_int, sli_tup, sli_lst, step_none, step_some, wipe_nil, wipe_cons, List.map_cons, List.map_nil, List.length_cons, len_nil, List.all_cons, List.all_nil, List.replicate, List.cons_append, List.nil_append, List.append_nil, List.zip_cons_cons, List.zip_nil_right, List.foldl_cons, List.foldl_nil, eq_self, Option.bind_some, Option.map_some, Bool.not_false, Bool.not_true, Bool.true_and, Bool.and_true, Bool.false_and, Bool.and_false, Bool.or_true, Bool.true_or, Bool.or_false, Bool.false_or, if_true, Bool.false_eq_true, if_false, Nat.sub_self, Nat.reduceAdd, Nat.reduceSub, Nat.reduceEqDiff, ite_true, ite_false, Nat.reduceLeDiff]
end
/-! ### the law -/
end Ws

/-! Ws82: the law's own renaming, its shuffled points. -/
namespace Ws
open PySem PySem.Spec L2

theorem pop_shuf {T : Tbl} {φ : Fn} (e : T.fn "_law_next" = some (2, φ)) (h : NextOk φ) {n : Int} {a2 : Option PV} : ∀ (xs : List PV) (l : List Int) (S : Strm), SOk S → xs.length ≤ l.length → l.length ≤ 100 → (∀ x ∈ xs, ∃ z, x = .int z) →
    ∃ (ys rest : List Int) (S' : Strm), popL (popS (fun e env S => evE T FU e env S) (.call "_law_next" [(.var 0), (.bi .len [(.var 2)])]) 3 2 [3] [some .stm, some (.int n), a2, none]) xs (l.map .int) S = some ((ys.map .int, rest.map .int), S') ∧ (ys ++ rest).Perm l ∧ ys.length = xs.length ∧ SOk S'
  | [], l, S, hS, _, _, _ => ⟨[], l, S, rfl, .refl _, rfl, hS⟩
  | x :: xs, l, S, hS, hl, h100, hx => by
    rw [List.length_cons] at hl
    obtain ⟨d, S1, n1, n2, n3, n4⟩ := h S l.length hS (by omega) (by omega)
    obtain ⟨z, rfl⟩ := hx x List.mem_cons_self
    obtain ⟨y, g1⟩ : ∃ y, l[d.toNat]? = some y := ⟨l[d.toNat]'(by omega), List.getElem?_eq_getElem (by omega)⟩
    have g2 := (at_intsN (l := l) n2 n3).2
    rw [List.length_map] at g2
    have hp := erase_perm g1
    obtain ⟨ys, rest, S2, k1, k2, k3, k4⟩ := pop_shuf e h (a2 := a2) (n := n) xs (l.eraseIdx d.toNat) S1 n4 (by have := hp.length_eq; rw [List.length_cons] at this; omega) (by have := hp.length_eq; rw [List.length_cons] at this; omega) fun x hx' => hx x (List.mem_cons_of_mem _ hx')
    refine ⟨y :: ys, rest, S2, ?_, (k2.cons y).trans hp, by rw [List.length_cons, List.length_cons, k3], k4⟩
    rw [popL]
    have hS1 : ∀ S2 : Strm, (S.isSome || S2.isNone) = true := fun S2 => isO hS
    have iR : inR d = true := by unfold inR; simp; omega
    have st : popS (fun e env S => evE T FU e env S) (.call "_law_next" [(.var 0), (.bi .len [(.var 2)])]) 3 2 [3] [some .stm, some (.int n), a2, none] (l.map .int) (.int z) S = some ((.int y, (l.eraseIdx d.toNat).map .int), S1) := by
      unfold popS
      have w1 : evE T FU (.call "_law_next" [(.var 0), (.bi .len [(.var 2)])]) [some .stm, some (.int n), some (.own (l.map .int)), some (.int z)] S = some (.int d, S1) := by
        have lL : ((l.map PV.int).length : Int) = (l.length : Int) := by rw [List.length_map]
        simp only [evF_end, end_nx, end_rt, FU, e_non, e_bl, e_int, e_str, e_ty, e_var, getV_some, e_glo, e_tup, e_lst, e_bin, e_neg, negV_int, e_not, e_and, e_or, andV_bl, orV_bl, and_pure, or_pure, e_cmp, e_chain, e_ite, e_idx, e_sli, e_gcd, e_sset, gcdV_int, e_call, callR_ret, e_bi, e_comp, l_nil, l_cons, s_nil, s_cons, then_nx, then_rt, turn_eq, ife_t, ife_f, ifeG_eq, c_asg, c_ret, c_retO, c_exp, c_ife, c_for, c_asgO, c_app, c_sset, g0, gS, st0, stS, thaw_tup, thaw_lst, thaw_own, thaw_int, thaw_bl, thaw_str, thaw_non, thaw_stm, own_tup, own_lst, own_own, own_int, own_bl, own_str, own_non, own_ty, own_stm, tru_bl, tru_int, seq_tup, seq_lst, seq_own, lst_lst, lst_own, add_int, sub_int, eq_int, ne_int, lt_int', le_int', gt_int', ge_int', ne_bl, eq_bl, idx_tup, idx_lst, idx_own, len_1, all_1, any_1, sum_1, tuple_1, list_1, sorted_1, int_1, abs_1, type_1, bind_nm, bind_tp, bind_ns, bind_tpl, min1_1, max1_1, mind_1, min2_1, max2_1, it_enum, enumB_lst, c_par, it_seq, it_rng1, it_rng2, rngA_int, rngB_int, it_zip, zip_tup, zip_lst, par_none, par_some, parB_int, sli_tup, sli_lst, step_none, step_some, wipe_nil, wipe_cons, List.map_cons, List.map_nil, List.length_cons, len_nil, List.all_cons, List.all_nil, List.replicate, List.cons_append, List.nil_append, List.append_nil, List.zip_cons_cons, List.zip_nil_right, List.foldl_cons, List.foldl_nil, eq_self, Option.bind_some, Option.map_some, Bool.not_false, Bool.not_true, Bool.true_and, Bool.and_true, Bool.false_and, Bool.and_false, Bool.or_true, Bool.true_or, Bool.or_false, Bool.false_or, if_true, Bool.false_eq_true, if_false, Nat.sub_self, Nat.reduceAdd, Nat.reduceSub, Nat.reduceEqDiff, ite_true, ite_false, Nat.reduceLeDiff, e, lL, n1, callR_flat (x := .int d) rfl (hS1 S1)]
      show (evE T FU _ [some .stm, some (.int n), some (.own (l.map .int)), some (.int z)] S).bind _ = _
      rw [w1, Option.bind_some]
      dsimp only
      rw [if_pos iR, List.length_map, g2, Option.bind_some, List.getElem?_map, g1]
      show some ((PV.int y, (l.map PV.int).eraseIdx d.toNat), S1) = _
      rw [erase_map]
    rw [st, Option.bind_some]
    dsimp only
    rw [k1]
    rfl
end Ws

/-! texts of further laws -/
namespace Ws.P
open PySem PySem.Spec PyProof.Rows L2 Ws
end Ws.P

/-! texts of further laws -/
namespace Ws.P
open PySem PySem.Spec PyProof.Rows L2 Ws
end Ws.P

/-! texts of further laws -/
namespace Ws.P
open PySem PySem.Spec PyProof.Rows L2 Ws
abbrev N_need_shape : List Str := ["shape"]
def c_need_shape : List CS := [
  .ife (.not (.call "is_shape" [(.var 0)])) [.rse "BadValue" [(.str "shape")]] []]
abbrev N_many_points : List Str := ["pairs", "pair", "point"]
def c_many_points : List CS := [
  .ret (.nsc (.var 2) (.nm 1) (.seq (.var 0)) (.nm 2) (.seq (.var 1)) [("pair", 1), ("point", 2)])]
abbrev N_are_apart : List Str := ["pairs"]
def c_are_apart : List CS := [
  .ret (.cmp .eq (.call "many_points" [(.var 0)]) (.int 6))]
abbrev N_are_triangle : List Str := ["pairs"]
def c_are_triangle : List CS := [
  .ret (.and (.cmp .eq (.call "many_points" [(.sli (.var 0) none (some (.int 3)))]) (.int 3)) (.cmp .eq (.call "many_points" [(.var 0)]) (.int 5)))]
abbrev N_threes_apart : List Str := ["shape", "three"]
def c_threes_apart : List CS := [
  .ret (.comp (.var 1) (.nm 1) (.cbl (.bi .list [(.var 0)]) (.int 3)) (some (.call "are_apart" [(.var 1)])) [("three", 1)])]
abbrev N_triangles : List Str := ["shape", "three", "pair"]
def c_triangles : List CS := [
  .ret (.comp2 (.cat true (.var 1) [(.var 2)]) (.nm 1) (.cbl (.bi .list [(.var 0)]) (.int 3)) none (.nm 2) (.seq (.var 0)) (some (.call "are_triangle" [(.cat true (.var 1) [(.var 2)])])) [("three", 1), ("pair", 2)])]
abbrev N_is_shape : List Str := ["value", "pair"]
def c_is_shape : List CS := [
  .ife (.or (.not (.call "is_tuple" [(.var 0), (.int 0), (.glo "MOST_PAIRS")])) (.not (.bi .all [(.comp (.call "is_pair" [(.var 1), (.glo "MOST_POINTS")]) (.nm 1) (.seq (.var 0)) none [("pair", 1)])]))) [.ret (.bl false)] [],
  .ret (.call "is_ascending" [(.var 0)])]
abbrev N_is_enough : List Str := ["shape"]
def c_is_enough : List CS := [
  .exp (.call "need_shape" [(.var 0)]),
  .ret (.and (.not (.call "threes_apart" [(.var 0)])) (.not (.call "triangles" [(.var 0)])))]
abbrev N_may_join : List Str := ["shape", "points", "others", "pair"]
def c_may_join : List CS := [
  .exp (.call "need_shape" [(.var 0)]),
  .ife (.not (.call "is_within" [(.var 1), (.glo "LEAST_POINTS"), (.glo "MOST_POINTS")])) [.rse "BadValue" [(.str "points")]] [],
  .ife (.cmp .eq (.bi .len [(.var 0)]) (.glo "MOST_PAIRS")) [.ret (.tup [])] [],
  .asg (.nm 2) (.comp (.var 3) (.nm 3) (.cb1 (.var 1) (.int 2)) (some (.cmp .nmem (.var 3) (.var 0))) [("pair", 3)]),
  .ret (.bi .tuple [(.comp (.var 3) (.nm 3) (.seq (.var 2)) (some (.call "is_enough" [(.bi .tuple [(.bi .sorted [(.cat false (.var 0) [(.var 3)])])])])) [("pair", 3)])])]
abbrev N__law_shuffled_v2 : List Str := ["stream", "many", "left", "k"]
def c__law_shuffled_v2 : List CS := [
  .asgO 2 (.rg1 false (.var 1)),
  .pop none [] 2 (.call "_law_next" [(.var 0), (.bi .len [(.var 2)])]) 3 (.rng1 (.var 1)) [("k", 3)]]
abbrev N__law_pair : List Str := ["one", "other"]
def c__law_pair : List CS := [
  .ret (.tup [(.bi .min2 [(.var 0), (.var 1)]), (.bi .max2 [(.var 0), (.var 1)])])]
abbrev N__law_all_pairs : List Str := ["points", "found", "one", "other"]
def c__law_all_pairs : List CS := [
  .asg (.nm 1) (.lst []),
  .for_ (.nm 2) (.rng1 (.var 0)) [.asg (.nm 1) (.bin .add (.var 1) (.comp (.tup [(.var 2), (.var 3)]) (.nm 3) (.rng2 (.bin .add (.var 2) (.int 1)) (.var 0)) none [("other", 3)]))],
  .ret (.var 1)]
abbrev N__law_ring : List Str := ["points", "at"]
def c__law_ring : List CS := [
  .ret (.comp (.call "_law_pair" [(.idx (.var 0) (.bin .sub (.var 1) (.int 1))), (.idx (.var 0) (.var 1))]) (.nm 1) (.rng1 (.bi .len [(.var 0)])) none [("at", 1)])]
abbrev N__law_shape : List Str := ["stream", "order", "pairs", "base", "pick", "found", "k", "pair", "at"]
def c__law_shape : List CS := [
  .asg (.nm 1) (.call "_law_shuffled" [(.var 0), (.int 7)]),
  .asg (.nm 2) (.call "_law_all_pairs" [(.int 7)]),
  .asg (.nm 3) (.lst []),
  .asg (.nm 4) (.call "_law_next" [(.var 0), (.int 7)]),
  .ife (.cmp .eq (.var 4) (.int 0)) [.asg (.nm 2) (.comp (.var 7) (.nm 7) (.seq (.var 2)) (some (.or (.cmp .mem (.idx (.var 1) (.int 0)) (.var 7)) (.cmp .mem (.idx (.var 1) (.int 1)) (.var 7)))) [("pair", 7)])] [],
  .ife (.cmp .eq (.var 4) (.int 1)) [.asg (.nm 2) (.comp (.var 7) (.nm 7) (.seq (.var 2)) (some (.and (.cmp .mem (.idx (.var 7) (.int 0)) (.sli (.var 1) none (some (.int 4)))) (.cmp .mem (.idx (.var 7) (.int 1)) (.sli (.var 1) none (some (.int 4)))))) [("pair", 7)]), .asg (.nm 3) (.idx (.lst [(.var 2), (.lst [])]) (.call "_law_next" [(.var 0), (.int 2)]))] [],
  .ife (.cmp .eq (.var 4) (.int 2)) [.asg (.nm 2) (.call "_law_ring" [(.sli (.var 1) none (some (.int 5)))]), .asg (.nm 3) (.idx (.lst [(.var 2), (.lst [])]) (.call "_law_next" [(.var 0), (.int 2)]))] [],
  .ife (.cmp .eq (.var 4) (.int 3)) [.asg (.nm 3) (.comp (.call "_law_pair" [(.idx (.var 1) (.var 8)), (.idx (.var 1) (.bin .add (.var 8) (.int 1)))]) (.nm 8) (.seq (.lst [(.int 0), (.int 2), (.int 4)])) none [("at", 8)])] [],
  .ife (.cmp .eq (.var 4) (.int 4)) [.asg (.nm 3) (.bin .add (.call "_law_ring" [(.sli (.var 1) none (some (.int 3)))]) (.lst [(.call "_law_pair" [(.idx (.var 1) (.int 3)), (.idx (.var 1) (.int 4))])]))] [],
  .asgO 5 (.bi .list [(.var 3)]),
  .for_ (.nm 6) (.rng1 (.call "_law_next" [(.var 0), (.int 6)])) [.asg (.nm 7) (.idx (.var 2) (.call "_law_next" [(.var 0), (.bi .len [(.var 2)])])), .ife (.cmp .nmem (.var 7) (.var 5)) [.app 5 (.var 7)] []],
  .ret (.bi .tuple [(.bi .sorted [(.var 5)])])]
abbrev N__law_apart : List Str := ["one", "other"]
def c__law_apart : List CS := [
  .ret (.not (.or (.cmp .mem (.idx (.var 0) (.int 0)) (.var 1)) (.cmp .mem (.idx (.var 0) (.int 1)) (.var 1))))]
abbrev N__law_choices : List Str := ["items", "many", "rows", "turn", "longer", "row", "item"]
def c__law_choices : List CS := [
  .asg (.nm 2) (.lst [(.tup [])]),
  .for_ (.nm 3) (.rng1 (.var 1)) [.asg (.nm 4) (.lst []), .for_ (.nm 5) (.seq (.var 2)) [.asg (.nm 4) (.bin .add (.var 4) (.comp (.bin .add (.var 5) (.tup [(.var 6)])) (.nm 6) (.seq (.var 0)) (some (.or (.not (.var 5)) (.cmp .gt (.var 6) (.idx (.var 5) (.neg (.int 1)))))) [("item", 6)]))], .asg (.nm 2) (.var 4)],
  .ret (.var 2)]
abbrev N__law_three_apart : List Str := ["shape", "found", "one", "others", "other", "last"]
def c__law_three_apart : List CS := [
  .asg (.nm 1) (.lst []),
  .for_ (.nm 2) (.seq (.var 0)) [.asg (.nm 3) (.comp (.var 4) (.nm 4) (.seq (.var 0)) (some (.and (.cmp .gt (.var 4) (.var 2)) (.call "_law_apart" [(.var 2), (.var 4)]))) [("other", 4)]), .for_ (.nm 4) (.seq (.var 3)) [.asg (.nm 1) (.bin .add (.var 1) (.comp (.tup [(.var 2), (.var 4), (.var 5)]) (.nm 5) (.seq (.var 3)) (some (.and (.cmp .gt (.var 5) (.var 4)) (.call "_law_apart" [(.var 4), (.var 5)]))) [("last", 5)]))]],
  .ret (.var 1)]
abbrev N__law_triangles : List Str := ["shape", "found", "x", "y", "z", "rest", "pair"]
def c__law_triangles : List CS := [
  .asg (.nm 1) (.lst []),
  .for_ (.tp [2, 3, 4]) (.seq (.call "_law_choices" [(.rg1 false (.int 7)), (.int 3)])) [.ife (.and (.cmp .mem (.tup [(.var 2), (.var 3)]) (.var 0)) (.and (.cmp .mem (.tup [(.var 2), (.var 4)]) (.var 0)) (.cmp .mem (.tup [(.var 3), (.var 4)]) (.var 0)))) [.asg (.nm 5) (.comp (.var 6) (.nm 6) (.seq (.var 0)) (some (.call "_law_apart" [(.var 6), (.tup [(.var 2), (.var 3), (.var 4)])])) [("pair", 6)]), .asg (.nm 1) (.bin .add (.var 1) (.comp (.tup [(.tup [(.var 2), (.var 3)]), (.tup [(.var 2), (.var 4)]), (.tup [(.var 3), (.var 4)]), (.var 6)]) (.nm 6) (.seq (.var 5)) none [("pair", 6)]))] []],
  .ret (.var 1)]
abbrev N__law_bad : List Str := ["shape", "first", "row"]
def c__law_bad : List CS := [
  .asg (.nm 1) (.comp (.tup [(.str "not"), (.str "apart"), (.var 2)]) (.nm 2) (.seq (.call "_law_three_apart" [(.var 0)])) none [("row", 2)]),
  .ret (.bin .add (.var 1) (.comp (.tup [(.str "not"), (.str "triangle"), (.var 2)]) (.nm 2) (.seq (.call "_law_triangles" [(.var 0)])) none [("row", 2)]))]
end Ws.P

/-! Ws107: shapes; three pairs apart, triangles with a pair apart (the program). -/
namespace Ws
open PySem PySem.Spec L2

abbrev Sh := List (Int × Int)
/-- a shape -/
structure GoodSh (sh : Sh) : Prop where
  len : sh.length ≤ 10
  inn : ∀ p ∈ sh, 0 ≤ p.1 ∧ p.1 < p.2 ∧ p.2 < 7
  asc : sh.Pairwise ltQ
abbrev shV (sh : Sh) : PV := .tup (sh.map pairV)
def ptsOf (ps : Sh) : List Int := ps.flatMap fun p => [p.1, p.2]
def cntP (ps : Sh) : Nat := (setI (ptsOf ps)).length
theorem ptsOf_len : ∀ ps : Sh, (ptsOf ps).length = 2 * ps.length
  | [] => rfl
  | p :: ps => by
    have := ptsOf_len ps
    unfold ptsOf at *
    rw [List.flatMap_cons, List.length_append, List.length_cons, this]
    simp; omega
theorem compLL_map {α : Type} {step : PV → Strm → Option (List PV × Strm)} {S : Strm} {f : α → PV} {g : α → List PV} : ∀ {xs : List α}, (∀ x ∈ xs, step (f x) S = some (g x, S)) → compLL step (xs.map f) S = some (xs.flatMap g, S)
  | [], _ => rfl
  | x :: xs, h => by
    rw [List.map_cons, compLL, h x List.mem_cons_self, Option.bind_some]
    dsimp only
    rw [compLL_map fun y hy => h y (List.mem_cons_of_mem _ hy), List.flatMap_cons]; rfl
def ManyOk (φ : Fn) : Prop := ∀ ps S, ps.length ≤ 20 → φ [shV ps] S = some (.ret (.int (cntP ps)), S)
theorem many_ok {T : Tbl} : ManyOk (evF T 3 P.c_many_points) := by
  intro ps S hp
  have c : compLL (step2V (fun e env S => evE T 59 e env S) (.var 2) (.nm 1) none (.nm 2) (.seq (.var 1)) none [some (shV ps), none, none]) (ps.map pairV) S = some ((ptsOf ps).map .int, S) := by
    rw [compLL_map (g := fun p => [PV.int p.1, PV.int p.2]) fun p _ => by rfl]
    unfold ptsOf
    rw [List.map_flatMap]; rfl
  have hl := ptsOf_len ps
  have e : evE T FU (.nsc (.var 2) (.nm 1) (.seq (.var 0)) (.nm 2) (.seq (.var 1)) [("pair", 1), ("point", 2)]) [some (shV ps), none, none] S = some (.int (cntP ps), S) := by
    rw [FU, e_nsc]
    refine (congrArg (fun z => Option.bind z nscV) c).trans ?_
    rw [Option.bind_some]
    unfold nscV cntP
    rw [ints_map, Option.bind_some, if_pos (by omega)]
  show (seqL (fun c env S => evS T FU c env S) [_] [some (shV ps), none, none] S).map endV = _
  rw [s_cons, c_ret, e]
  rfl
def ApartPOk (φ : Fn) : Prop := ∀ ps S, ps.length ≤ 20 → φ [shV ps] S = some (.ret (.bl (decide ((cntP ps : Int) = 6))), S)
theorem apartP_ok {T : Tbl} (H : ∃ φ, T.fn "many_points" = some (1, φ) ∧ ManyOk φ) : ApartPOk (evF T 1 P.c_are_apart) := by
  intro ps S hp
  obtain ⟨φ, e, h⟩ := H
  have a := h ps S hp
  have wo : (shV ps).isOwn = false := rfl
  have wt : (shV ps).thaw = shV ps := rfl
  generalize shV ps = V at *
  generalize (cntP ps : Int) = k at *
  unfold P.c_are_apart
  simp only [evF_end, end_nx, end_rt, FU, e_non, e_bl, e_int, e_str, e_ty, e_var, getV_some, e_glo, e_tup, e_lst, e_bin, e_neg, negV_int, e_not, e_and, e_or, andV_bl, orV_bl, and_pure, or_pure, e_cmp, e_chain, e_ite, e_idx, e_sli, e_gcd, e_sset, gcdV_int, e_call, callR_ret, e_bi, e_comp, l_nil, l_cons, s_nil, s_cons, then_nx, then_rt, turn_eq, ife_t, ife_f, ifeG_eq, c_asg, c_ret, c_retO, c_exp, c_ife, c_for, c_asgO, c_app, c_sset, g0, gS, st0, stS, thaw_tup, thaw_lst, thaw_own, thaw_int, thaw_bl, thaw_str, thaw_non, thaw_stm, own_tup, own_lst, own_own, own_int, own_bl, own_str, own_non, own_ty, own_stm, tru_bl, tru_int, seq_tup, seq_lst, seq_own, lst_lst, lst_own, add_int, sub_int, eq_int, ne_int, lt_int', le_int', gt_int', ge_int', ne_bl, eq_bl, idx_tup, idx_lst, idx_own, len_1, all_1, any_1, sum_1, tuple_1, list_1, sorted_1, int_1, abs_1, type_1, bind_nm, bind_tp, bind_ns, bind_tpl, min1_1, max1_1, mind_1, min2_1, max2_1, it_enum, enumB_lst, c_par, it_seq, it_rng1, it_rng2, rngA_int, rngB_int, it_zip, zip_tup, zip_lst, par_none, par_some, parB_int, sli_tup, sli_lst, step_none, step_some, wipe_nil, wipe_cons, List.map_cons, List.map_nil, List.length_cons, len_nil, List.all_cons, List.all_nil, List.replicate, List.cons_append, List.nil_append, List.append_nil, List.zip_cons_cons, List.zip_nil_right, List.foldl_cons, List.foldl_nil, eq_self, Option.bind_some, Option.map_some, Bool.not_false, Bool.not_true, Bool.true_and, Bool.and_true, Bool.false_and, Bool.and_false, Bool.or_true, Bool.true_or, Bool.or_false, Bool.false_or, if_true, Bool.false_eq_true, if_false, Nat.sub_self, Nat.reduceAdd, Nat.reduceSub, Nat.reduceEqDiff, ite_true, ite_false, Nat.reduceLeDiff, e, a, wo, wt]
def TriPOk (φ : Fn) : Prop := ∀ ps S, 3 ≤ ps.length → ps.length ≤ 20 → φ [shV ps] S = some (.ret (.bl (decide ((cntP (ps.take 3) : Int) = 3) && decide ((cntP ps : Int) = 5))), S)
theorem triP_ok {T : Tbl} (H : ∃ φ, T.fn "many_points" = some (1, φ) ∧ ManyOk φ) : TriPOk (evF T 1 P.c_are_triangle) := by
  intro ps S h3 hp
  obtain ⟨φ, e, h⟩ := H
  have a1 := h (ps.take 3) S (by rw [List.length_take]; omega)
  have a2 := h ps S hp
  have sl : sliV (shV ps) none (some 3) = some (shV (ps.take 3)) := by
    show some (PV.tup (cutP (ps.map pairV) none (some 3))) = _
    have ct := cut_to (l := ps.map pairV) (k := 3) (by rw [List.length_map]; exact h3)
    rw [show ((3 : Nat) : Int) = 3 from rfl] at ct
    rw [ct, ← List.map_take]
  have wo : (shV ps).isOwn = false := rfl
  have wt : (shV ps).thaw = shV ps := rfl
  have xo : (shV (ps.take 3)).isOwn = false := rfl
  have xt : (shV (ps.take 3)).thaw = shV (ps.take 3) := rfl
  generalize shV (ps.take 3) = X at *
  generalize shV ps = V at *
  generalize (cntP ps : Int) = k at *
  generalize (cntP (ps.take 3) : Int) = j at *
  unfold P.c_are_triangle
  simp only [evF_end, end_nx, end_rt, FU, e_non, e_bl, e_int, e_str, e_ty, e_var, getV_some, e_glo, e_tup, e_lst, e_bin, e_neg, negV_int, e_not, e_and, e_or, andV_bl, orV_bl, and_pure, or_pure, e_cmp, e_chain, e_ite, e_idx, e_sli, e_gcd, e_sset, gcdV_int, e_call, callR_ret, e_bi, e_comp, l_nil, l_cons, s_nil, s_cons, then_nx, then_rt, turn_eq, ife_t, ife_f, ifeG_eq, c_asg, c_ret, c_retO, c_exp, c_ife, c_for, c_asgO, c_app, c_sset, g0, gS, st0, stS, thaw_tup, thaw_lst, thaw_own, thaw_int, thaw_bl, thaw_str, thaw_non, thaw_stm, own_tup, own_lst, own_own, own_int, own_bl, own_str, own_non, own_ty, own_stm, tru_bl, tru_int, seq_tup, seq_lst, seq_own, lst_lst, lst_own, add_int, sub_int, eq_int, ne_int, lt_int', le_int', gt_int', ge_int', ne_bl, eq_bl, idx_tup, idx_lst, idx_own, len_1, all_1, any_1, sum_1, tuple_1, list_1, sorted_1, int_1, abs_1, type_1, bind_nm, bind_tp, bind_ns, bind_tpl, min1_1, max1_1, mind_1, min2_1, max2_1, it_enum, enumB_lst, c_par, it_seq, it_rng1, it_rng2, rngA_int, rngB_int, it_zip, zip_tup, zip_lst, par_none, par_some, parB_int, sli_tup, sli_lst, step_none, step_some, wipe_nil, wipe_cons, List.map_cons, List.map_nil, List.length_cons, len_nil, List.all_cons, List.all_nil, List.replicate, List.cons_append, List.nil_append, List.append_nil, List.zip_cons_cons, List.zip_nil_right, List.foldl_cons, List.foldl_nil, eq_self, Option.bind_some, Option.map_some, Bool.not_false, Bool.not_true, Bool.true_and, Bool.and_true, Bool.false_and, Bool.and_false, Bool.or_true, Bool.true_or, Bool.or_false, Bool.false_or, if_true, Bool.false_eq_true, if_false, Nat.sub_self, Nat.reduceAdd, Nat.reduceSub, Nat.reduceEqDiff, ite_true, ite_false, Nat.reduceLeDiff, e, a1, a2, sl, wo, wt, xo, xt]
/-! threes -/
def ix3 (n : Nat) : List (List Nat) := (List.range n).flatMap fun i => ((List.range n).filter fun j => decide (i < j)).flatMap fun j => ((List.range n).filter fun k => decide (j < k)).map fun k => [i, j, k]
theorem cb3_all : (List.range 11).all (fun n => decide (cbAll n 3 = some (ix3 n))) = true := by decide +kernel
theorem cb3 {n : Nat} (h : n ≤ 10) : cbAll n 3 = some (ix3 n) := of_decide_eq_true (List.all_eq_true.mp cb3_all n (List.mem_range.mpr (by omega)))
theorem ix3_mem {n : Nat} {j : List Nat} : j ∈ ix3 n ↔ ∃ a b c, a < b ∧ b < c ∧ c < n ∧ j = [a, b, c] := by
  unfold ix3
  simp only [List.mem_flatMap, List.mem_map, List.mem_filter, List.mem_range, decide_eq_true_eq]
  constructor
  · rintro ⟨a, ha, b, ⟨hb, hab⟩, c, ⟨hc, hbc⟩, rfl⟩
    exact ⟨a, b, c, hab, hbc, hc, rfl⟩
  · rintro ⟨a, b, c, h1, h2, h3, rfl⟩
    exact ⟨a, by omega, b, ⟨by omega, h1⟩, c, ⟨h3, h2⟩, rfl⟩
def c3 (sh : Sh) : List Sh := (ix3 sh.length).map fun j => j.map fun i => sh.getD i (0, 0)
theorem comb3 {sh : Sh} (h : sh.length ≤ 10) : combV (sh.map pairV) 3 = some ((c3 sh).map shV) := by
  unfold combV
  rw [if_pos (by decide), List.length_map]
  show (cbAll sh.length 3).map _ = _
  rw [cb3 h, Option.map_some]
  congr 1
  unfold c3
  rw [List.map_map]
  refine List.map_congr_left fun j hj => ?_
  obtain ⟨a, b, c, h1, h2, h3, rfl⟩ := ix3_mem.mp hj
  have g : ∀ i, i < sh.length → (sh.map pairV).getD i .non = pairV (sh.getD i (0, 0)) := fun i hi => by
    rw [List.getD_eq_getElem?_getD, List.getD_eq_getElem?_getD, List.getElem?_map, List.getElem?_eq_getElem hi]; rfl
  show PV.tup [(sh.map pairV).getD a .non, (sh.map pairV).getD b .non, (sh.map pairV).getD c .non] = PV.tup [pairV (sh.getD a (0, 0)), pairV (sh.getD b (0, 0)), pairV (sh.getD c (0, 0))]
  rw [g a (by omega), g b (by omega), g c h3]
theorem c3_len {sh t : Sh} (h : t ∈ c3 sh) : t.length = 3 := by
  obtain ⟨j, hj, rfl⟩ := List.mem_map.mp h
  obtain ⟨a, b, c, _, _, _, rfl⟩ := ix3_mem.mp hj
  rfl
theorem pw_get {sh : Sh} (h : sh.Pairwise ltQ) {i j : Nat} (hij : i < j) (hj : j < sh.length) : ltQ (sh.getD i (0, 0)) (sh.getD j (0, 0)) := by
  rw [List.getD_eq_getElem?_getD, List.getD_eq_getElem?_getD, List.getElem?_eq_getElem hj, List.getElem?_eq_getElem (by omega)]
  exact List.pairwise_iff_getElem.mp h i j (by omega) hj hij
theorem get_lt {sh : Sh} (h : sh.Pairwise ltQ) {i j : Nat} (hi : i < sh.length) (hj : j < sh.length) (q : ltQ (sh.getD i (0, 0)) (sh.getD j (0, 0))) : i < j := by
  rcases Nat.lt_trichotomy i j with h' | h' | h'
  · exact h'
  · subst h'; exact (ltQ_asymm q q).elim
  · exact (ltQ_asymm q (pw_get h h' hi)).elim
theorem getD_mem {sh : Sh} {i : Nat} (h : i < sh.length) : sh.getD i (0, 0) ∈ sh := by
  rw [List.getD_eq_getElem?_getD, List.getElem?_eq_getElem h]
  exact List.getElem_mem h
theorem mem_getD {sh : Sh} {p : Int × Int} (h : p ∈ sh) : ∃ i, i < sh.length ∧ sh.getD i (0, 0) = p := by
  obtain ⟨i, hi, e⟩ := List.getElem_of_mem h
  exact ⟨i, hi, by rw [List.getD_eq_getElem?_getD, List.getElem?_eq_getElem hi]; exact e⟩
/-- the threes of a shape are the rising ones -/
theorem c3_mem {sh t : Sh} (g : sh.Pairwise ltQ) : t ∈ c3 sh ↔ ∃ p q r, p ∈ sh ∧ q ∈ sh ∧ r ∈ sh ∧ ltQ p q ∧ ltQ q r ∧ t = [p, q, r] := by
  constructor
  · intro h
    obtain ⟨j, hj, rfl⟩ := List.mem_map.mp h
    obtain ⟨a, b, c, h1, h2, h3, rfl⟩ := ix3_mem.mp hj
    exact ⟨_, _, _, getD_mem (by omega), getD_mem (by omega), getD_mem h3, pw_get g h1 (by omega), pw_get g h2 h3, rfl⟩
  · rintro ⟨p, q, r, hp, hq, hr, h1, h2, rfl⟩
    obtain ⟨a, ha, rfl⟩ := mem_getD hp
    obtain ⟨b, hb, rfl⟩ := mem_getD hq
    obtain ⟨c, hc, rfl⟩ := mem_getD hr
    exact List.mem_map.mpr ⟨[a, b, c], ix3_mem.mpr ⟨a, b, c, get_lt g ha hb h1, get_lt g hb hc h2, hc, rfl⟩, rfl⟩
def thr (sh : Sh) : List Sh := (c3 sh).filter fun t => decide ((cntP t : Int) = 6)
theorem ix3_len {n : Nat} (h : n ≤ 10) : (ix3 n).length ≤ 120 := by
  have : (List.range 11).all (fun n => decide ((ix3 n).length ≤ 120)) = true := by decide +kernel
  exact of_decide_eq_true (List.all_eq_true.mp this n (List.mem_range.mpr (by omega)))
theorem c3_many {sh : Sh} (h : sh.length ≤ 10) : (c3 sh).length ≤ 120 := by unfold c3; rw [List.length_map]; exact ix3_len h
def ThreesOk (φ : Fn) : Prop := ∀ sh S, sh.length ≤ 10 → φ [shV sh] S = some (.ret (.lst ((thr sh).map shV)), S)
theorem threes_ok {T : Tbl} (H : ∃ φ, T.fn "are_apart" = some (1, φ) ∧ ApartPOk φ) : ThreesOk (evF T 2 P.c_threes_apart) := by
  intro sh S h10
  obtain ⟨φ, e, h⟩ := H
  have c : compL (stepV (fun e env S => evE T 59 e env S) (.var 1) (.nm 1) (some (.call "are_apart" [(.var 1)])) [some (shV sh), none]) ((c3 sh).map shV) S = some ((thr sh).map shV, S) := by
    unfold thr
    refine compL_fil fun t ht => ?_
    have a := h t S (by rw [c3_len ht]; decide)
    have wo : (shV t).isOwn = false := rfl
    have wt : (shV t).thaw = shV t := rfl
    generalize shV t = V at *
    simp only [evF_end, end_nx, end_rt, FU, e_non, e_bl, e_int, e_str, e_ty, e_var, getV_some, e_glo, e_tup, e_lst, e_bin, e_neg, negV_int, e_not, e_and, e_or, andV_bl, orV_bl, and_pure, or_pure, e_cmp, e_chain, e_ite, e_idx, e_sli, e_gcd, e_sset, gcdV_int, e_call, callR_ret, e_bi, e_comp, l_nil, l_cons, s_nil, s_cons, then_nx, then_rt, turn_eq, ife_t, ife_f, ifeG_eq, c_asg, c_ret, c_retO, c_exp, c_ife, c_for, c_asgO, c_app, c_sset, g0, gS, st0, stS, thaw_tup, thaw_lst, thaw_own, thaw_int, thaw_bl, thaw_str, thaw_non, thaw_stm, own_tup, own_lst, own_own, own_int, own_bl, own_str, own_non, own_ty, own_stm, tru_bl, tru_int, seq_tup, seq_lst, seq_own, lst_lst, lst_own, add_int, sub_int, eq_int, ne_int, lt_int', le_int', gt_int', ge_int', ne_bl, eq_bl, idx_tup, idx_lst, idx_own, len_1, all_1, any_1, sum_1, tuple_1, list_1, sorted_1, int_1, abs_1, type_1, bind_nm, bind_tp, bind_ns, bind_tpl, min1_1, max1_1, mind_1, min2_1, max2_1, it_enum, enumB_lst, c_par, it_seq, it_rng1, it_rng2, rngA_int, rngB_int, it_zip, zip_tup, zip_lst, par_none, par_some, parB_int, sli_tup, sli_lst, step_none, step_some, wipe_nil, wipe_cons, List.map_cons, List.map_nil, List.length_cons, len_nil, List.all_cons, List.all_nil, List.replicate, List.cons_append, List.nil_append, List.append_nil, List.zip_cons_cons, List.zip_nil_right, List.foldl_cons, List.foldl_nil, eq_self, Option.bind_some, Option.map_some, Bool.not_false, Bool.not_true, Bool.true_and, Bool.and_true, Bool.false_and, Bool.and_false, Bool.or_true, Bool.true_or, Bool.or_false, Bool.false_or, if_true, Bool.false_eq_true, if_false, Nat.sub_self, Nat.reduceAdd, Nat.reduceSub, Nat.reduceEqDiff, ite_true, ite_false, Nat.reduceLeDiff, e, a, wo, wt]
    cases decide ((cntP t : Int) = 6) <;> rfl
  have it : itV true (fun e S => evE T 59 e [some (shV sh), none] S) (.cbl (.bi .list [(.var 0)]) (.int 3)) S = some ((c3 sh).map shV, S) := by
    show (combV (sh.map pairV) 3).map (fun l => (l, S)) = _
    rw [comb3 h10]; rfl
  have lc : ((c3 sh).map shV).length ≤ LIM := by rw [List.length_map]; have := c3_many h10; unfold LIM; omega
  have e0 : evE T FU (.comp (.var 1) (.nm 1) (.cbl (.bi .list [(.var 0)]) (.int 3)) (some (.call "are_apart" [(.var 1)])) [("three", 1)]) [some (shV sh), none] S = some (.lst ((thr sh).map shV), S) := by
    rw [FU, e_comp, it, Option.bind_some]
    dsimp only
    rw [if_pos lc]
    show ((compL (stepV (fun e env S => evE T 59 e env S) (.var 1) (.nm 1) (some (.call "are_apart" [(.var 1)])) [some (shV sh), none]) ((c3 sh).map shV) S).map _) = _
    rw [c]; rfl
  show (seqL (fun c env S => evS T FU c env S) [_] [some (shV sh), none] S).map endV = _
  rw [s_cons, c_ret, e0]
  rfl
def triB (t : Sh) : Bool := decide ((cntP (t.take 3) : Int) = 3) && decide ((cntP t : Int) = 5)
def triL (sh : Sh) : List Sh := (c3 sh).flatMap fun t => (sh.filter fun d => triB (t ++ [d])).map fun d => t ++ [d]
def TrisOk (φ : Fn) : Prop := ∀ sh S, sh.length ≤ 10 → φ [shV sh] S = some (.ret (.lst ((triL sh).map shV)), S)
theorem len_fm {α β : Type} {g : α → List β} {m : Nat} : ∀ {l : List α}, (∀ x ∈ l, (g x).length ≤ m) → (l.flatMap g).length ≤ l.length * m
  | [], _ => by simp
  | x :: l, h => by
    have := len_fm fun y hy => h y (List.mem_cons_of_mem x hy)
    have := h x List.mem_cons_self
    rw [List.flatMap_cons, List.length_append, List.length_cons, Nat.add_mul]
    omega
theorem tris_ok {T : Tbl} (H : ∃ φ, T.fn "are_triangle" = some (1, φ) ∧ TriPOk φ) : TrisOk (evF T 3 P.c_triangles) := by
  intro sh S h10
  obtain ⟨φ, e, h⟩ := H
  have cat : ∀ (n : Nat) (t : Sh) (d : Int × Int), t.length = 3 → evE T (n + 2) (.cat true (.var 1) [(.var 2)]) [some (shV sh), some (shV t), some (pairV d)] S = some (shV (t ++ [d]), S) := fun n t d ht => by
    rw [e_cat]
    show catQ true (shV t) ([pairV d], S) = _
    have lt : decide ((t.map pairV).length + 1 ≤ LIM) = true := decide_eq_true (by rw [List.length_map, ht]; decide)
    show (if ([pairV d].all (fun y => !y.isOwn) && decide ((t.map pairV).length + [pairV d].length ≤ LIM)) = true then some (PV.tup (t.map pairV ++ [pairV d]), S) else none) = _
    rw [show ([pairV d].all (fun y => !y.isOwn) && decide ((t.map pairV).length + [pairV d].length ≤ LIM)) = true from lt, if_pos rfl]
    show some (PV.tup (t.map pairV ++ [pairV d]), S) = some (PV.tup ((t ++ [d]).map pairV), S)
    rw [List.map_append]; rfl
  have inner : ∀ t ∈ c3 sh, compL (stepV (fun e env S => evE T 59 e env S) (.cat true (.var 1) [(.var 2)]) (.nm 2) (some (.call "are_triangle" [(.cat true (.var 1) [(.var 2)])])) [some (shV sh), some (shV t), none]) (sh.map pairV) S = some (((sh.filter fun d => triB (t ++ [d])).map fun d => t ++ [d]).map shV, S) := fun t ht => by
    have w := compL_map (f := pairV) (g := fun d => if triB (t ++ [d]) then some (shV (t ++ [d])) else none) (xs := sh) (S := S) (step := stepV (fun e env S => evE T 59 e env S) (.cat true (.var 1) [(.var 2)]) (.nm 2) (some (.call "are_triangle" [(.cat true (.var 1) [(.var 2)])])) [some (shV sh), some (shV t), none]) fun d hd => by
      have k1 := cat 57 t d (c3_len ht)
      have k2 := cat 56 t d (c3_len ht)
      have a := h (t ++ [d]) S (by rw [List.length_append, c3_len ht, List.length_singleton]; decide) (by rw [List.length_append, c3_len ht, List.length_singleton]; decide)
      have po : (pairV d).isOwn = false := rfl
      have wo : (shV (t ++ [d])).isOwn = false := rfl
      have wt : (shV (t ++ [d])).thaw = shV (t ++ [d]) := rfl
      unfold triB
      generalize shV (t ++ [d]) = V at *
      generalize pairV d = pd at *
      generalize shV t = tv at *
      generalize shV sh = sv at *
      simp only [evF_end, end_nx, end_rt, FU, e_non, e_bl, e_int, e_str, e_ty, e_var, getV_some, e_glo, e_tup, e_lst, e_bin, e_neg, negV_int, e_not, e_and, e_or, andV_bl, orV_bl, and_pure, or_pure, e_cmp, e_chain, e_ite, e_idx, e_sli, e_gcd, e_sset, gcdV_int, e_call, callR_ret, e_bi, e_comp, l_nil, l_cons, s_nil, s_cons, then_nx, then_rt, turn_eq, ife_t, ife_f, ifeG_eq, c_asg, c_ret, c_retO, c_exp, c_ife, c_for, c_asgO, c_app, c_sset, g0, gS, st0, stS, thaw_tup, thaw_lst, thaw_own, thaw_int, thaw_bl, thaw_str, thaw_non, thaw_stm, own_tup, own_lst, own_own, own_int, own_bl, own_str, own_non, own_ty, own_stm, tru_bl, tru_int, seq_tup, seq_lst, seq_own, lst_lst, lst_own, add_int, sub_int, eq_int, ne_int, lt_int', le_int', gt_int', ge_int', ne_bl, eq_bl, idx_tup, idx_lst, idx_own, len_1, all_1, any_1, sum_1, tuple_1, list_1, sorted_1, int_1, abs_1, type_1, bind_nm, bind_tp, bind_ns, bind_tpl, min1_1, max1_1, mind_1, min2_1, max2_1, it_enum, enumB_lst, c_par, it_seq, it_rng1, it_rng2, rngA_int, rngB_int, it_zip, zip_tup, zip_lst, par_none, par_some, parB_int, sli_tup, sli_lst, step_none, step_some, wipe_nil, wipe_cons, List.map_cons, List.map_nil, List.length_cons, len_nil, List.all_cons, List.all_nil, List.replicate, List.cons_append, List.nil_append, List.append_nil, List.zip_cons_cons, List.zip_nil_right, List.foldl_cons, List.foldl_nil, eq_self, Option.bind_some, Option.map_some, Bool.not_false, Bool.not_true, Bool.true_and, Bool.and_true, Bool.false_and, Bool.and_false, Bool.or_true, Bool.true_or, Bool.or_false, Bool.false_or, if_true, Bool.false_eq_true, if_false, Nat.sub_self, Nat.reduceAdd, Nat.reduceSub, Nat.reduceEqDiff, ite_true, ite_false, Nat.reduceLeDiff, po, k1, k2, e, a, wo, wt]
      cases (decide ((cntP ((t ++ [d]).take 3) : Int) = 3) && decide ((cntP (t ++ [d]) : Int) = 5)) <;> rfl
    rw [filterMap_if (fun d => triB (t ++ [d])) fun d => shV (t ++ [d])] at w
    rw [w, List.map_map]; rfl
  have it : itV true (fun e S => evE T 59 e [some (shV sh), none, none] S) (.cbl (.bi .list [(.var 0)]) (.int 3)) S = some ((c3 sh).map shV, S) := by
    show (combV (sh.map pairV) 3).map (fun l => (l, S)) = _
    rw [comb3 h10]; rfl
  have c : compLL (step2V (fun e env S => evE T 59 e env S) (.cat true (.var 1) [(.var 2)]) (.nm 1) none (.nm 2) (.seq (.var 0)) (some (.call "are_triangle" [(.cat true (.var 1) [(.var 2)])])) [some (shV sh), none, none]) ((c3 sh).map shV) S = some ((triL sh).map shV, S) := by
    rw [compLL_map (g := fun t => ((sh.filter fun d => triB (t ++ [d])).map fun d => t ++ [d]).map shV) fun t ht => ?_]
    · unfold triL
      rw [List.map_flatMap]
    · exact inner t ht
  have lm : (triL sh).length ≤ 120 * 10 := by
    have h1 := c3_many h10
    have h2 : (triL sh).length ≤ (c3 sh).length * 10 := len_fm fun t ht => by
      rw [List.length_map]
      exact Nat.le_trans (List.length_filter_le _ _) h10
    omega
  have ll : ((triL sh).map shV).length ≤ LIM := by rw [List.length_map]; unfold LIM; omega
  have e0 : evE T FU (.comp2 (.cat true (.var 1) [(.var 2)]) (.nm 1) (.cbl (.bi .list [(.var 0)]) (.int 3)) none (.nm 2) (.seq (.var 0)) (some (.call "are_triangle" [(.cat true (.var 1) [(.var 2)])])) [("three", 1), ("pair", 2)]) [some (shV sh), none, none] S = some (.lst ((triL sh).map shV), S) := by
    rw [FU, e_comp2, it, Option.bind_some]
    show ((compLL (step2V (fun e env S => evE T 59 e env S) (.cat true (.var 1) [(.var 2)]) (.nm 1) none (.nm 2) (.seq (.var 0)) (some (.call "are_triangle" [(.cat true (.var 1) [(.var 2)])])) [some (shV sh), none, none]) ((c3 sh).map shV) S).bind _) = _
    rw [c, Option.bind_some]
    dsimp only
    rw [if_pos ll]
  show (seqL (fun c env S => evS T FU c env S) [_] [some (shV sh), none, none] S).map endV = _
  rw [s_cons, c_ret, e0]
  rfl
end Ws

/-! Ws108: is_shape, is_enough, may_join; the law's bad parts. -/
namespace Ws
open PySem PySem.Spec L2

theorem pairV_pl (p : Int × Int) : (pairV p).pl = true := rfl
theorem prs_pls : ∀ sh : Sh, PV.pls (sh.map pairV) = true
  | [] => rfl
  | p :: sh => by rw [List.map_cons, PV.pls, prs_pls sh, pairV_pl]; rfl
theorem shV_pl (sh : Sh) : (shV sh).pl = true := by rw [pl_tup]; exact prs_pls sh
theorem shV_isT {sh : Sh} (h : sh.length ≤ 10) : isT (shV sh) 0 10 = true := by
  unfold isT shV
  dsimp only
  rw [List.length_map, decide_eq_true (by omega), decide_eq_true (by omega)]; rfl
def IsShapeOk (φ : Fn) : Prop := ∀ sh S, GoodSh sh → φ [shV sh] S = some (.ret (.bl true), S)
theorem isShape_ok {T : Tbl} (H1 : ∃ φ, T.fn "is_tuple" = some (3, φ) ∧ IsTupOk φ) (H2 : ∃ φ, T.fn "is_pair" = some (2, φ) ∧ IsPairOk φ) (H3 : ∃ φ, T.fn "is_ascending" = some (1, φ) ∧ AscOk φ) (g1 : T.glo "MOST_PAIRS" = some 10) (g2 : T.glo "MOST_POINTS" = some 7) : IsShapeOk (evF T 2 P.c_is_shape) := by
  intro sh S g
  obtain ⟨φ1, e1, h1⟩ := H1
  obtain ⟨φ2, e2, h2⟩ := H2
  obtain ⟨φ3, e3, h3⟩ := H3
  have h10 := g.len
  have a1 := h1 (shV sh) 0 10 S (shV_pl sh)
  rw [shV_isT g.len] at a1
  have c : compL (stepV (fun e env S => evE T 56 e env S) (.call "is_pair" [(.var 1), (.glo "MOST_POINTS")]) (.nm 1) none [some (shV sh), none]) (sh.map pairV) S = some ((sh.map fun _ => true).map .bl, S) := by
    rw [List.map_map]
    refine compL_maps fun p hp => ?_
    have a := h2 (pairV p) 7 S (pairV_pl p)
    have r : isPr (pairV p) 7 = true := by
      have := g.inn p hp
      unfold isPr pairV
      dsimp only
      rw [decide_eq_true (by omega), decide_eq_true (by omega), decide_eq_true (by omega), decide_eq_true (by omega)]; rfl
    rw [r] at a
    have po : (pairV p).isOwn = false := rfl
    have pt : (pairV p).thaw = pairV p := rfl
    generalize pairV p = pd at *
    generalize shV sh = sv at *
    simp only [evF_end, end_nx, end_rt, FU, e_non, e_bl, e_int, e_str, e_ty, e_var, getV_some, e_glo, e_tup, e_lst, e_bin, e_neg, negV_int, e_not, e_and, e_or, andV_bl, orV_bl, and_pure, or_pure, e_cmp, e_chain, e_ite, e_idx, e_sli, e_gcd, e_sset, gcdV_int, e_call, callR_ret, e_bi, e_comp, l_nil, l_cons, s_nil, s_cons, then_nx, then_rt, turn_eq, ife_t, ife_f, ifeG_eq, c_asg, c_ret, c_retO, c_exp, c_ife, c_for, c_asgO, c_app, c_sset, g0, gS, st0, stS, thaw_tup, thaw_lst, thaw_own, thaw_int, thaw_bl, thaw_str, thaw_non, thaw_stm, own_tup, own_lst, own_own, own_int, own_bl, own_str, own_non, own_ty, own_stm, tru_bl, tru_int, seq_tup, seq_lst, seq_own, lst_lst, lst_own, add_int, sub_int, eq_int, ne_int, lt_int', le_int', gt_int', ge_int', ne_bl, eq_bl, idx_tup, idx_lst, idx_own, len_1, all_1, any_1, sum_1, tuple_1, list_1, sorted_1, int_1, abs_1, type_1, bind_nm, bind_tp, bind_ns, bind_tpl, min1_1, max1_1, mind_1, min2_1, max2_1, it_enum, enumB_lst, c_par, it_seq, it_rng1, it_rng2, rngA_int, rngB_int, it_zip, zip_tup, zip_lst, par_none, par_some, parB_int, sli_tup, sli_lst, step_none, step_some, wipe_nil, wipe_cons, List.map_cons, List.map_nil, List.length_cons, len_nil, List.all_cons, List.all_nil, List.replicate, List.cons_append, List.nil_append, List.append_nil, List.zip_cons_cons, List.zip_nil_right, List.foldl_cons, List.foldl_nil, eq_self, Option.bind_some, Option.map_some, Bool.not_false, Bool.not_true, Bool.true_and, Bool.and_true, Bool.false_and, Bool.and_false, Bool.or_true, Bool.true_or, Bool.or_false, Bool.false_or, if_true, Bool.false_eq_true, if_false, Nat.sub_self, Nat.reduceAdd, Nat.reduceSub, Nat.reduceEqDiff, ite_true, ite_false, Nat.reduceLeDiff, e2, a, g2, po, pt]
    rfl
  obtain ⟨bs, b1, b2⟩ := ascL_pr2 (sh.map fun p => (p.1, p.2, 0))
  have em : (sh.map fun p => ((p.1, p.2, 0) : Lk)).map pr2 = sh.map pairV := by rw [List.map_map]; rfl
  rw [em] at b1
  have ba : ascP (sh.map fun p => ((p.1, p.2, 0) : Lk)) = true := ascP_pw.mpr (List.pairwise_map.mpr (g.asc.imp fun {a b} q => q))
  have a3 := h3 (shV sh) (sh.map pairV) bs S (.inl rfl) (prs_pls sh) (by rw [List.length_map]; unfold LIM; omega) b1
  rw [b2, ba] at a3
  have al : ((sh.map fun _ => true).all id) = true := by rw [List.all_map]; exact List.all_eq_true.mpr fun _ _ => rfl
  have ll : (sh.map pairV).length ≤ LIM := by rw [List.length_map]; unfold LIM; omega
  have sq : (shV sh).seq? = some (sh.map pairV) := rfl
  have wo : (shV sh).isOwn = false := rfl
  have wt : (shV sh).thaw = shV sh := rfl
  unfold P.c_is_shape
  generalize (sh.map fun _ => true) = Z at *
  generalize shV sh = V at *
  generalize sh.map pairV = L at *
  simp only [evF_end, end_nx, end_rt, FU, e_non, e_bl, e_int, e_str, e_ty, e_var, getV_some, e_glo, e_tup, e_lst, e_bin, e_neg, negV_int, e_not, e_and, e_or, andV_bl, orV_bl, and_pure, or_pure, e_cmp, e_chain, e_ite, e_idx, e_sli, e_gcd, e_sset, gcdV_int, e_call, callR_ret, e_bi, e_comp, l_nil, l_cons, s_nil, s_cons, then_nx, then_rt, turn_eq, ife_t, ife_f, ifeG_eq, c_asg, c_ret, c_retO, c_exp, c_ife, c_for, c_asgO, c_app, c_sset, g0, gS, st0, stS, thaw_tup, thaw_lst, thaw_own, thaw_int, thaw_bl, thaw_str, thaw_non, thaw_stm, own_tup, own_lst, own_own, own_int, own_bl, own_str, own_non, own_ty, own_stm, tru_bl, tru_int, seq_tup, seq_lst, seq_own, lst_lst, lst_own, add_int, sub_int, eq_int, ne_int, lt_int', le_int', gt_int', ge_int', ne_bl, eq_bl, idx_tup, idx_lst, idx_own, len_1, all_1, any_1, sum_1, tuple_1, list_1, sorted_1, int_1, abs_1, type_1, bind_nm, bind_tp, bind_ns, bind_tpl, min1_1, max1_1, mind_1, min2_1, max2_1, it_enum, enumB_lst, c_par, it_seq, it_rng1, it_rng2, rngA_int, rngB_int, it_zip, zip_tup, zip_lst, par_none, par_some, parB_int, sli_tup, sli_lst, step_none, step_some, wipe_nil, wipe_cons, List.map_cons, List.map_nil, List.length_cons, len_nil, List.all_cons, List.all_nil, List.replicate, List.cons_append, List.nil_append, List.append_nil, List.zip_cons_cons, List.zip_nil_right, List.foldl_cons, List.foldl_nil, eq_self, Option.bind_some, Option.map_some, Bool.not_false, Bool.not_true, Bool.true_and, Bool.and_true, Bool.false_and, Bool.and_false, Bool.or_true, Bool.true_or, Bool.or_false, Bool.false_or, if_true, Bool.false_eq_true, if_false, Nat.sub_self, Nat.reduceAdd, Nat.reduceSub, Nat.reduceEqDiff, ite_true, ite_false, Nat.reduceLeDiff, e1, a1, g1, e3, a3, sq, ll, c, bls_map, al, wo, wt]
def NeedShapeOk (φ : Fn) : Prop := ∀ sh S, GoodSh sh → φ [shV sh] S = some (.ret .non, S)
theorem needShape_ok {T : Tbl} (H : ∃ φ, T.fn "is_shape" = some (1, φ) ∧ IsShapeOk φ) : NeedShapeOk (evF T 1 P.c_need_shape) := by
  intro sh S g
  obtain ⟨φ, e, h⟩ := H
  have a := h sh S g
  have wo : (shV sh).isOwn = false := rfl
  have wt : (shV sh).thaw = shV sh := rfl
  unfold P.c_need_shape
  generalize shV sh = V at *
  simp only [evF_end, end_nx, end_rt, FU, e_non, e_bl, e_int, e_str, e_ty, e_var, getV_some, e_glo, e_tup, e_lst, e_bin, e_neg, negV_int, e_not, e_and, e_or, andV_bl, orV_bl, and_pure, or_pure, e_cmp, e_chain, e_ite, e_idx, e_sli, e_gcd, e_sset, gcdV_int, e_call, callR_ret, e_bi, e_comp, l_nil, l_cons, s_nil, s_cons, then_nx, then_rt, turn_eq, ife_t, ife_f, ifeG_eq, c_asg, c_ret, c_retO, c_exp, c_ife, c_for, c_asgO, c_app, c_sset, g0, gS, st0, stS, thaw_tup, thaw_lst, thaw_own, thaw_int, thaw_bl, thaw_str, thaw_non, thaw_stm, own_tup, own_lst, own_own, own_int, own_bl, own_str, own_non, own_ty, own_stm, tru_bl, tru_int, seq_tup, seq_lst, seq_own, lst_lst, lst_own, add_int, sub_int, eq_int, ne_int, lt_int', le_int', gt_int', ge_int', ne_bl, eq_bl, idx_tup, idx_lst, idx_own, len_1, all_1, any_1, sum_1, tuple_1, list_1, sorted_1, int_1, abs_1, type_1, bind_nm, bind_tp, bind_ns, bind_tpl, min1_1, max1_1, mind_1, min2_1, max2_1, it_enum, enumB_lst, c_par, it_seq, it_rng1, it_rng2, rngA_int, rngB_int, it_zip, zip_tup, zip_lst, par_none, par_some, parB_int, sli_tup, sli_lst, step_none, step_some, wipe_nil, wipe_cons, List.map_cons, List.map_nil, List.length_cons, len_nil, List.all_cons, List.all_nil, List.replicate, List.cons_append, List.nil_append, List.append_nil, List.zip_cons_cons, List.zip_nil_right, List.foldl_cons, List.foldl_nil, eq_self, Option.bind_some, Option.map_some, Bool.not_false, Bool.not_true, Bool.true_and, Bool.and_true, Bool.false_and, Bool.and_false, Bool.or_true, Bool.true_or, Bool.or_false, Bool.false_or, if_true, Bool.false_eq_true, if_false, Nat.sub_self, Nat.reduceAdd, Nat.reduceSub, Nat.reduceEqDiff, ite_true, ite_false, Nat.reduceLeDiff, e, a, wo, wt]
def enB (sh : Sh) : Bool := (thr sh).isEmpty && (triL sh).isEmpty
def EnoughOk (φ : Fn) : Prop := ∀ sh S, GoodSh sh → φ [shV sh] S = some (.ret (.bl (enB sh)), S)
theorem enough_ok {T : Tbl} (H1 : ∃ φ, T.fn "need_shape" = some (1, φ) ∧ NeedShapeOk φ) (H2 : ∃ φ, T.fn "threes_apart" = some (1, φ) ∧ ThreesOk φ) (H3 : ∃ φ, T.fn "triangles" = some (1, φ) ∧ TrisOk φ) : EnoughOk (evF T 1 P.c_is_enough) := by
  intro sh S g
  obtain ⟨φ1, e1, h1⟩ := H1
  obtain ⟨φ2, e2, h2⟩ := H2
  obtain ⟨φ3, e3, h3⟩ := H3
  have a1 := h1 sh S g
  have a2 := h2 sh S g.len
  have a3 := h3 sh S g.len
  have m2 : ((thr sh).map shV).isEmpty = (thr sh).isEmpty := by cases thr sh <;> rfl
  have m3 : ((triL sh).map shV).isEmpty = (triL sh).isEmpty := by cases triL sh <;> rfl
  have wo : (shV sh).isOwn = false := rfl
  have wt : (shV sh).thaw = shV sh := rfl
  unfold P.c_is_enough enB
  generalize (thr sh).isEmpty = b2 at *
  generalize (triL sh).isEmpty = b3 at *
  generalize (thr sh).map shV = L2' at *
  generalize (triL sh).map shV = L3' at *
  generalize shV sh = V at *
  simp only [evF_end, end_nx, end_rt, FU, e_non, e_bl, e_int, e_str, e_ty, e_var, getV_some, e_glo, e_tup, e_lst, e_bin, e_neg, negV_int, e_not, e_and, e_or, andV_bl, orV_bl, and_pure, or_pure, e_cmp, e_chain, e_ite, e_idx, e_sli, e_gcd, e_sset, gcdV_int, e_call, callR_ret, e_bi, e_comp, l_nil, l_cons, s_nil, s_cons, then_nx, then_rt, turn_eq, ife_t, ife_f, ifeG_eq, c_asg, c_ret, c_retO, c_exp, c_ife, c_for, c_asgO, c_app, c_sset, g0, gS, st0, stS, thaw_tup, thaw_lst, thaw_own, thaw_int, thaw_bl, thaw_str, thaw_non, thaw_stm, own_tup, own_lst, own_own, own_int, own_bl, own_str, own_non, own_ty, own_stm, tru_bl, tru_int, seq_tup, seq_lst, seq_own, lst_lst, lst_own, add_int, sub_int, eq_int, ne_int, lt_int', le_int', gt_int', ge_int', ne_bl, eq_bl, idx_tup, idx_lst, idx_own, len_1, all_1, any_1, sum_1, tuple_1, list_1, sorted_1, int_1, abs_1, type_1, bind_nm, bind_tp, bind_ns, bind_tpl, min1_1, max1_1, mind_1, min2_1, max2_1, it_enum, enumB_lst, c_par, it_seq, it_rng1, it_rng2, rngA_int, rngB_int, it_zip, zip_tup, zip_lst, par_none, par_some, parB_int, sli_tup, sli_lst, step_none, step_some, wipe_nil, wipe_cons, List.map_cons, List.map_nil, List.length_cons, len_nil, List.all_cons, List.all_nil, List.replicate, List.cons_append, List.nil_append, List.append_nil, List.zip_cons_cons, List.zip_nil_right, List.foldl_cons, List.foldl_nil, eq_self, Option.bind_some, Option.map_some, Bool.not_false, Bool.not_true, Bool.true_and, Bool.and_true, Bool.false_and, Bool.and_false, Bool.or_true, Bool.true_or, Bool.or_false, Bool.false_or, if_true, Bool.false_eq_true, if_false, Nat.sub_self, Nat.reduceAdd, Nat.reduceSub, Nat.reduceEqDiff, ite_true, ite_false, Nat.reduceLeDiff, e1, a1, e2, a2, e3, a3, wo, wt, tru_lst, m2, m3, Bool.not_not]
def insS (sh : Sh) (p : Int × Int) : Sh := isort le2 (sh ++ [p])
theorem insS_mem {sh : Sh} {p q : Int × Int} : q ∈ insS sh p ↔ q ∈ sh ∨ q = p := by
  unfold insS
  rw [isort_mem, List.mem_append, List.mem_singleton]
theorem ins_good {sh : Sh} (g : GoodSh sh) (h : sh.length < 10) {p : Int × Int} (hp : 0 ≤ p.1 ∧ p.1 < p.2 ∧ p.2 < 7) (hn : p ∉ sh) : GoodSh (insS sh p) := by
  refine ⟨by unfold insS; rw [isort_length, List.length_append, List.length_singleton]; omega, fun q hq => ?_, ?_⟩
  · rcases insS_mem.mp hq with h | rfl
    · exact g.inn q h
    · exact hp
  · have nd : (sh ++ [p]).Nodup := List.nodup_append.mpr ⟨ltQ_nd g.asc, by simp, fun a ha b hb => by rw [List.mem_singleton] at hb; subst hb; exact fun e => hn (e ▸ ha)⟩
    have nd2 : (insS sh p).Nodup := (isort_perm le2 _).nodup_iff.mpr nd
    have pw := isort_pw le2_total (sh ++ [p])
    have := List.pairwise_and_iff.mpr ⟨pw, nd2⟩
    refine this.imp fun {a b} q => ?_
    obtain ⟨q1, q2⟩ := q
    unfold le2 at q1
    have q1 := of_decide_eq_true q1
    by_cases e : a.1 = b.1 ∧ a.2 = b.2
    · exact absurd (Prod.ext e.1 e.2) q2
    · unfold ltQ; omega
theorem mem_sh {q : Int × Int} {A : Sh} : cmpV .mem (pairV q) (shV A) = some (decide (q ∈ A)) := by
  have e : A.map pairV = (A.map fun p => [p.1, p.2]).map ptsV := by rw [List.map_map]; rfl
  have m := mem_pts (a := [q.1, q.2]) (F := A.map fun p => [p.1, p.2])
  have : ([q.1, q.2] ∈ A.map fun p => [p.1, p.2]) ↔ q ∈ A := by
    rw [List.mem_map]
    constructor
    · rintro ⟨p, hp, e⟩
      injection e with e1 e2
      injection e2 with e2 _
      have : p = q := Prod.ext e1 e2
      exact this ▸ hp
    · exact fun h => ⟨q, h, rfl⟩
  rw [decide_eq_decide.mpr this, ← e] at m
  exact m
theorem nmem_sh {q : Int × Int} {A : Sh} : cmpV .nmem (pairV q) (shV A) = some (!decide (q ∈ A)) := by
  have := mem_sh (q := q) (A := A)
  show ((shV A).seq?.bind (memV (pairV q))).map (!·) = _
  rw [show (shV A).seq?.bind (memV (pairV q)) = some (decide (q ∈ A)) from this]; rfl
theorem srt_sh {l : Sh} : srtV (l.map pairV) = some ((isort le2 l).map pairV) := srt_pairs l
def joinS (n : Int) (sh : Sh) : Sh := if sh.length = 10 then [] else ((pairsL n).filter fun p => !decide (p ∈ sh)).filter fun p => enB (insS sh p)
theorem cbp2 : combV (rangeV 0 2) 2 = some ((pairsL 2).map pairV) := by kernel_rfl
theorem cbp3 : combV (rangeV 0 3) 2 = some ((pairsL 3).map pairV) := by kernel_rfl
theorem cbp4 : combV (rangeV 0 4) 2 = some ((pairsL 4).map pairV) := by kernel_rfl
theorem cbp5 : combV (rangeV 0 5) 2 = some ((pairsL 5).map pairV) := by kernel_rfl
theorem cbp6 : combV (rangeV 0 6) 2 = some ((pairsL 6).map pairV) := by kernel_rfl
theorem cbp7 : combV (rangeV 0 7) 2 = some ((pairsL 7).map pairV) := by kernel_rfl
theorem cbp {n : Int} (h2 : 2 ≤ n) (h7 : n ≤ 7) : combV (rangeV 0 n) 2 = some ((pairsL n).map pairV) := by
  rcases sev_of h2 h7 with rfl | rfl | rfl | rfl | rfl | rfl
  · exact cbp2
  · exact cbp3
  · exact cbp4
  · exact cbp5
  · exact cbp6
  · exact cbp7
def MayJoinOk (φ : Fn) : Prop := ∀ n sh S, 2 ≤ n → n ≤ 7 → GoodSh sh → φ [shV sh, .int n] S = some (.ret (shV (joinS n sh)), S)
theorem mayJoin_ok {T : Tbl} (H1 : ∃ φ, T.fn "need_shape" = some (1, φ) ∧ NeedShapeOk φ) (H2 : ∃ φ, T.fn "is_within" = some (3, φ) ∧ WithinOk φ) (H3 : ∃ φ, T.fn "is_enough" = some (1, φ) ∧ EnoughOk φ) (g1 : T.glo "MOST_PAIRS" = some 10) (g2 : T.glo "MOST_POINTS" = some 7) (g3 : T.glo "LEAST_POINTS" = some 2) : MayJoinOk (evF T 4 P.c_may_join) := by
  intro n sh S n2 n7 g
  obtain ⟨φ1, e1, h1⟩ := H1
  obtain ⟨φ2, e2, h2⟩ := H2
  obtain ⟨φ3, e3, h3⟩ := H3
  have h10 := g.len
  have a1 := h1 sh S g
  have a2 := h2 (.int n) 2 7 S rfl
  rw [show isW (.int n) 2 7 = true from by unfold isW; dsimp only; rw [decide_eq_true n2, decide_eq_true n7]; rfl] at a2
  obtain ⟨m, hm⟩ : ∃ m : Int, m = sh.length := ⟨_, rfl⟩
  have ll : (((sh.map pairV).length : Nat) : Int) = m := by rw [List.length_map, hm]
  have wo : (shV sh).isOwn = false := rfl
  have wt : (shV sh).thaw = shV sh := rfl
  have sq : (shV sh).seq? = some (sh.map pairV) := rfl
  have s0 : evS T FU (.exp (.call "need_shape" [(.var 0)])) [some (shV sh), some (.int n), none, none] S = some (.nx [some (shV sh), some (.int n), none, none], S) := by
    generalize shV sh = V at *
    simp only [evF_end, end_nx, end_rt, FU, e_non, e_bl, e_int, e_str, e_ty, e_var, getV_some, e_glo, e_tup, e_lst, e_bin, e_neg, negV_int, e_not, e_and, e_or, andV_bl, orV_bl, and_pure, or_pure, e_cmp, e_chain, e_ite, e_idx, e_sli, e_gcd, e_sset, gcdV_int, e_call, callR_ret, e_bi, e_comp, l_nil, l_cons, s_nil, s_cons, then_nx, then_rt, turn_eq, ife_t, ife_f, ifeG_eq, c_asg, c_ret, c_retO, c_exp, c_ife, c_for, c_asgO, c_app, c_sset, g0, gS, st0, stS, thaw_tup, thaw_lst, thaw_own, thaw_int, thaw_bl, thaw_str, thaw_non, thaw_stm, own_tup, own_lst, own_own, own_int, own_bl, own_str, own_non, own_ty, own_stm, tru_bl, tru_int, seq_tup, seq_lst, seq_own, lst_lst, lst_own, add_int, sub_int, eq_int, ne_int, lt_int', le_int', gt_int', ge_int', ne_bl, eq_bl, idx_tup, idx_lst, idx_own, len_1, all_1, any_1, sum_1, tuple_1, list_1, sorted_1, int_1, abs_1, type_1, bind_nm, bind_tp, bind_ns, bind_tpl, min1_1, max1_1, mind_1, min2_1, max2_1, it_enum, enumB_lst, c_par, it_seq, it_rng1, it_rng2, rngA_int, rngB_int, it_zip, zip_tup, zip_lst, par_none, par_some, parB_int, sli_tup, sli_lst, step_none, step_some, wipe_nil, wipe_cons, List.map_cons, List.map_nil, List.length_cons, len_nil, List.all_cons, List.all_nil, List.replicate, List.cons_append, List.nil_append, List.append_nil, List.zip_cons_cons, List.zip_nil_right, List.foldl_cons, List.foldl_nil, eq_self, Option.bind_some, Option.map_some, Bool.not_false, Bool.not_true, Bool.true_and, Bool.and_true, Bool.false_and, Bool.and_false, Bool.or_true, Bool.true_or, Bool.or_false, Bool.false_or, if_true, Bool.false_eq_true, if_false, Nat.sub_self, Nat.reduceAdd, Nat.reduceSub, Nat.reduceEqDiff, ite_true, ite_false, Nat.reduceLeDiff, e1, a1, wo, wt]
  have s1 : evS T FU (.ife (.not (.call "is_within" [(.var 1), (.glo "LEAST_POINTS"), (.glo "MOST_POINTS")])) [.rse "BadValue" [(.str "points")]] []) [some (shV sh), some (.int n), none, none] S = some (.nx [some (shV sh), some (.int n), none, none], S) := by
    generalize shV sh = V at *
    simp only [evF_end, end_nx, end_rt, FU, e_non, e_bl, e_int, e_str, e_ty, e_var, getV_some, e_glo, e_tup, e_lst, e_bin, e_neg, negV_int, e_not, e_and, e_or, andV_bl, orV_bl, and_pure, or_pure, e_cmp, e_chain, e_ite, e_idx, e_sli, e_gcd, e_sset, gcdV_int, e_call, callR_ret, e_bi, e_comp, l_nil, l_cons, s_nil, s_cons, then_nx, then_rt, turn_eq, ife_t, ife_f, ifeG_eq, c_asg, c_ret, c_retO, c_exp, c_ife, c_for, c_asgO, c_app, c_sset, g0, gS, st0, stS, thaw_tup, thaw_lst, thaw_own, thaw_int, thaw_bl, thaw_str, thaw_non, thaw_stm, own_tup, own_lst, own_own, own_int, own_bl, own_str, own_non, own_ty, own_stm, tru_bl, tru_int, seq_tup, seq_lst, seq_own, lst_lst, lst_own, add_int, sub_int, eq_int, ne_int, lt_int', le_int', gt_int', ge_int', ne_bl, eq_bl, idx_tup, idx_lst, idx_own, len_1, all_1, any_1, sum_1, tuple_1, list_1, sorted_1, int_1, abs_1, type_1, bind_nm, bind_tp, bind_ns, bind_tpl, min1_1, max1_1, mind_1, min2_1, max2_1, it_enum, enumB_lst, c_par, it_seq, it_rng1, it_rng2, rngA_int, rngB_int, it_zip, zip_tup, zip_lst, par_none, par_some, parB_int, sli_tup, sli_lst, step_none, step_some, wipe_nil, wipe_cons, List.map_cons, List.map_nil, List.length_cons, len_nil, List.all_cons, List.all_nil, List.replicate, List.cons_append, List.nil_append, List.append_nil, List.zip_cons_cons, List.zip_nil_right, List.foldl_cons, List.foldl_nil, eq_self, Option.bind_some, Option.map_some, Bool.not_false, Bool.not_true, Bool.true_and, Bool.and_true, Bool.false_and, Bool.and_false, Bool.or_true, Bool.true_or, Bool.or_false, Bool.false_or, if_true, Bool.false_eq_true, if_false, Nat.sub_self, Nat.reduceAdd, Nat.reduceSub, Nat.reduceEqDiff, ite_true, ite_false, Nat.reduceLeDiff, e2, a2, g2, g3]
  have s2c : evE T FU (.cmp .eq (.bi .len [(.var 0)]) (.glo "MOST_PAIRS")) [some (shV sh), some (.int n), none, none] S = some (.bl (decide (m = 10)), S) := by
    clear hm
    generalize sh.map pairV = L at *
    generalize shV sh = V at *
    simp only [evF_end, end_nx, end_rt, FU, e_non, e_bl, e_int, e_str, e_ty, e_var, getV_some, e_glo, e_tup, e_lst, e_bin, e_neg, negV_int, e_not, e_and, e_or, andV_bl, orV_bl, and_pure, or_pure, e_cmp, e_chain, e_ite, e_idx, e_sli, e_gcd, e_sset, gcdV_int, e_call, callR_ret, e_bi, e_comp, l_nil, l_cons, s_nil, s_cons, then_nx, then_rt, turn_eq, ife_t, ife_f, ifeG_eq, c_asg, c_ret, c_retO, c_exp, c_ife, c_for, c_asgO, c_app, c_sset, g0, gS, st0, stS, thaw_tup, thaw_lst, thaw_own, thaw_int, thaw_bl, thaw_str, thaw_non, thaw_stm, own_tup, own_lst, own_own, own_int, own_bl, own_str, own_non, own_ty, own_stm, tru_bl, tru_int, seq_tup, seq_lst, seq_own, lst_lst, lst_own, add_int, sub_int, eq_int, ne_int, lt_int', le_int', gt_int', ge_int', ne_bl, eq_bl, idx_tup, idx_lst, idx_own, len_1, all_1, any_1, sum_1, tuple_1, list_1, sorted_1, int_1, abs_1, type_1, bind_nm, bind_tp, bind_ns, bind_tpl, min1_1, max1_1, mind_1, min2_1, max2_1, it_enum, enumB_lst, c_par, it_seq, it_rng1, it_rng2, rngA_int, rngB_int, it_zip, zip_tup, zip_lst, par_none, par_some, parB_int, sli_tup, sli_lst, step_none, step_some, wipe_nil, wipe_cons, List.map_cons, List.map_nil, List.length_cons, len_nil, List.all_cons, List.all_nil, List.replicate, List.cons_append, List.nil_append, List.append_nil, List.zip_cons_cons, List.zip_nil_right, List.foldl_cons, List.foldl_nil, eq_self, Option.bind_some, Option.map_some, Bool.not_false, Bool.not_true, Bool.true_and, Bool.and_true, Bool.false_and, Bool.and_false, Bool.or_true, Bool.true_or, Bool.or_false, Bool.false_or, if_true, Bool.false_eq_true, if_false, Nat.sub_self, Nat.reduceAdd, Nat.reduceSub, Nat.reduceEqDiff, ite_true, ite_false, Nat.reduceLeDiff, sq, ll, g1]
  by_cases hl : sh.length = 10
  · have dm : decide (m = 10) = true := decide_eq_true (by omega)
    have e0 : joinS n sh = [] := by unfold joinS; rw [if_pos hl]
    have s2 : evS T FU (.ife (.cmp .eq (.bi .len [(.var 0)]) (.glo "MOST_PAIRS")) [.ret (.tup [])] []) [some (shV sh), some (.int n), none, none] S = some (.rt (.tup []), S) := by
      rw [c_ife, s2c, dm]
      rfl
    rw [e0]
    show (seqL (fun c env S => evS T FU c env S) P.c_may_join [some (shV sh), some (.int n), none, none] S).map endV = _
    unfold P.c_may_join
    rw [seqn s0, seqn s1, seqr s2]
    rfl
  · have dm : decide (m = 10) = false := decide_eq_false (by omega)
    have s2 : evS T FU (.ife (.cmp .eq (.bi .len [(.var 0)]) (.glo "MOST_PAIRS")) [.ret (.tup [])] []) [some (shV sh), some (.int n), none, none] S = some (.nx [some (shV sh), some (.int n), none, none], S) := by
      rw [c_ife, s2c, dm]
      rfl
    have pf := pl_facts2 n2 n7
    have it : itV true (fun e S => evE T 59 e [some (shV sh), some (.int n), none, none] S) (.cb1 (.var 1) (.int 2)) S = some ((pairsL n).map pairV, S) := by
      show cbR 0 n (.int 2, S) = _
      unfold cbR
      dsimp only
      have i1 : inR 0 = true := by decide
      have i2 : inR n = true := inR_small (by omega) (by omega)
      rw [i1, i2, decide_eq_true (show (n - 0).toNat ≤ LIM by unfold LIM; omega), cbp n2 n7]
      rfl
    have lp : ((pairsL n).map pairV).length ≤ LIM := by rw [List.length_map]; unfold LIM; omega
    have c1 : compL (stepV (fun e env S => evE T 59 e env S) (.var 3) (.nm 3) (some (.cmp .nmem (.var 3) (.var 0))) [some (shV sh), some (.int n), none, none]) ((pairsL n).map pairV) S = some (((pairsL n).filter fun p => !decide (p ∈ sh)).map pairV, S) := by
      refine compL_fil fun p hp => ?_
      have nm := nmem_sh (q := p) (A := sh)
      have po : (pairV p).isOwn = false := rfl
      generalize pairV p = pd at *
      generalize shV sh = V at *
      simp only [evF_end, end_nx, end_rt, FU, e_non, e_bl, e_int, e_str, e_ty, e_var, getV_some, e_glo, e_tup, e_lst, e_bin, e_neg, negV_int, e_not, e_and, e_or, andV_bl, orV_bl, and_pure, or_pure, e_cmp, e_chain, e_ite, e_idx, e_sli, e_gcd, e_sset, gcdV_int, e_call, callR_ret, e_bi, e_comp, l_nil, l_cons, s_nil, s_cons, then_nx, then_rt, turn_eq, ife_t, ife_f, ifeG_eq, c_asg, c_ret, c_retO, c_exp, c_ife, c_for, c_asgO, c_app, c_sset, g0, gS, st0, stS, thaw_tup, thaw_lst, thaw_own, thaw_int, thaw_bl, thaw_str, thaw_non, thaw_stm, own_tup, own_lst, own_own, own_int, own_bl, own_str, own_non, own_ty, own_stm, tru_bl, tru_int, seq_tup, seq_lst, seq_own, lst_lst, lst_own, add_int, sub_int, eq_int, ne_int, lt_int', le_int', gt_int', ge_int', ne_bl, eq_bl, idx_tup, idx_lst, idx_own, len_1, all_1, any_1, sum_1, tuple_1, list_1, sorted_1, int_1, abs_1, type_1, bind_nm, bind_tp, bind_ns, bind_tpl, min1_1, max1_1, mind_1, min2_1, max2_1, it_enum, enumB_lst, c_par, it_seq, it_rng1, it_rng2, rngA_int, rngB_int, it_zip, zip_tup, zip_lst, par_none, par_some, parB_int, sli_tup, sli_lst, step_none, step_some, wipe_nil, wipe_cons, List.map_cons, List.map_nil, List.length_cons, len_nil, List.all_cons, List.all_nil, List.replicate, List.cons_append, List.nil_append, List.append_nil, List.zip_cons_cons, List.zip_nil_right, List.foldl_cons, List.foldl_nil, eq_self, Option.bind_some, Option.map_some, Bool.not_false, Bool.not_true, Bool.true_and, Bool.and_true, Bool.false_and, Bool.and_false, Bool.or_true, Bool.true_or, Bool.or_false, Bool.false_or, if_true, Bool.false_eq_true, if_false, Nat.sub_self, Nat.reduceAdd, Nat.reduceSub, Nat.reduceEqDiff, ite_true, ite_false, Nat.reduceLeDiff, nm, po]
      cases decide (p ∈ sh) <;> rfl
    obtain ⟨O, hO⟩ : ∃ O, (pairsL n).filter (fun p => !decide (p ∈ sh)) = O := ⟨_, rfl⟩
    rw [hO] at c1
    have s3 : evS T FU (.asg (.nm 2) (.comp (.var 3) (.nm 3) (.cb1 (.var 1) (.int 2)) (some (.cmp .nmem (.var 3) (.var 0))) [("pair", 3)])) [some (shV sh), some (.int n), none, none] S = some (.nx [some (shV sh), some (.int n), some (.lst (O.map pairV)), none], S) := by
      have e0 : evE T FU (.comp (.var 3) (.nm 3) (.cb1 (.var 1) (.int 2)) (some (.cmp .nmem (.var 3) (.var 0))) [("pair", 3)]) [some (shV sh), some (.int n), none, none] S = some (.lst (O.map pairV), S) := by
        rw [FU, e_comp, it, Option.bind_some]
        dsimp only
        rw [if_pos lp]
        exact congrArg (fun z => Option.map (fun r : List PV × Strm => (PV.lst r.1, r.2)) z) c1
      rw [c_asg, e0]; rfl
    have c2 : compL (stepV (fun e env S => evE T 58 e env S) (.var 3) (.nm 3) (some (.call "is_enough" [(.bi .tuple [(.bi .sorted [(.cat false (.var 0) [(.var 3)])])])])) [some (shV sh), some (.int n), some (.lst (O.map pairV)), none]) (O.map pairV) S = some ((O.filter fun p => enB (insS sh p)).map pairV, S) := by
      refine compL_fil fun p hp => ?_
      rw [← hO] at hp
      obtain ⟨hp1, hp2⟩ := List.mem_filter.mp hp
      have pp := pin2 n2 n7 hp1
      have gi := ins_good g (by omega) (p := p) (by omega) (by simpa using hp2)
      have a := h3 (insS sh p) S gi
      have po : (pairV p).isOwn = false := rfl
      have xo : (shV (insS sh p)).isOwn = false := rfl
      have xt : (shV (insS sh p)).thaw = shV (insS sh p) := rfl
      have cq : catQ false (shV sh) ([pairV p], S) = some (.lst ((sh ++ [p]).map pairV), S) := by
        have lt : decide ((sh.map pairV).length + 1 ≤ LIM) = true := decide_eq_true (by rw [List.length_map]; unfold LIM; omega)
        show (if ([pairV p].all (fun y => !y.isOwn) && decide ((sh.map pairV).length + [pairV p].length ≤ LIM)) = true then some (PV.lst (sh.map pairV ++ [pairV p]), S) else none) = _
        rw [show ([pairV p].all (fun y => !y.isOwn) && decide ((sh.map pairV).length + [pairV p].length ≤ LIM)) = true from lt, if_pos rfl, List.map_append]; rfl
      have ss := srt_sh (l := sh ++ [p])
      have fin : PV.tup ((isort le2 (sh ++ [p])).map pairV) = shV (insS sh p) := rfl
      generalize (isort le2 (sh ++ [p])).map pairV = L1 at *
      generalize (sh ++ [p]).map pairV = L0 at *
      generalize shV (insS sh p) = X at *
      generalize pairV p = pd at *
      generalize shV sh = V at *
      simp only [evF_end, end_nx, end_rt, FU, e_non, e_bl, e_int, e_str, e_ty, e_var, getV_some, e_glo, e_tup, e_lst, e_bin, e_neg, negV_int, e_not, e_and, e_or, andV_bl, orV_bl, and_pure, or_pure, e_cmp, e_chain, e_ite, e_idx, e_sli, e_gcd, e_sset, gcdV_int, e_call, callR_ret, e_bi, e_comp, l_nil, l_cons, s_nil, s_cons, then_nx, then_rt, turn_eq, ife_t, ife_f, ifeG_eq, c_asg, c_ret, c_retO, c_exp, c_ife, c_for, c_asgO, c_app, c_sset, g0, gS, st0, stS, thaw_tup, thaw_lst, thaw_own, thaw_int, thaw_bl, thaw_str, thaw_non, thaw_stm, own_tup, own_lst, own_own, own_int, own_bl, own_str, own_non, own_ty, own_stm, tru_bl, tru_int, seq_tup, seq_lst, seq_own, lst_lst, lst_own, add_int, sub_int, eq_int, ne_int, lt_int', le_int', gt_int', ge_int', ne_bl, eq_bl, idx_tup, idx_lst, idx_own, len_1, all_1, any_1, sum_1, tuple_1, list_1, sorted_1, int_1, abs_1, type_1, bind_nm, bind_tp, bind_ns, bind_tpl, min1_1, max1_1, mind_1, min2_1, max2_1, it_enum, enumB_lst, c_par, it_seq, it_rng1, it_rng2, rngA_int, rngB_int, it_zip, zip_tup, zip_lst, par_none, par_some, parB_int, sli_tup, sli_lst, step_none, step_some, wipe_nil, wipe_cons, List.map_cons, List.map_nil, List.length_cons, len_nil, List.all_cons, List.all_nil, List.replicate, List.cons_append, List.nil_append, List.append_nil, List.zip_cons_cons, List.zip_nil_right, List.foldl_cons, List.foldl_nil, eq_self, Option.bind_some, Option.map_some, Bool.not_false, Bool.not_true, Bool.true_and, Bool.and_true, Bool.false_and, Bool.and_false, Bool.or_true, Bool.true_or, Bool.or_false, Bool.false_or, if_true, Bool.false_eq_true, if_false, Nat.sub_self, Nat.reduceAdd, Nat.reduceSub, Nat.reduceEqDiff, ite_true, ite_false, Nat.reduceLeDiff, e_cat, cq, ss, fin, e3, a, po, xo, xt]
      cases enB (insS sh p) <;> rfl
    have lo : (O.map pairV).length ≤ LIM := by rw [List.length_map, ← hO]; have := List.length_filter_le (fun p => !decide (p ∈ sh)) (pairsL n); unfold LIM; omega
    have ej : joinS n sh = O.filter fun p => enB (insS sh p) := by unfold joinS; rw [if_neg hl, hO]
    have s4 : evS T FU (.ret (.bi .tuple [(.comp (.var 3) (.nm 3) (.seq (.var 2)) (some (.call "is_enough" [(.bi .tuple [(.bi .sorted [(.cat false (.var 0) [(.var 3)])])])])) [("pair", 3)])])) [some (shV sh), some (.int n), some (.lst (O.map pairV)), none] S = some (.rt (shV (joinS n sh)), S) := by
      rw [ej]
      unfold shV at c2 ⊢
      generalize (O.filter fun p => enB (insS sh p)).map pairV = R at *
      generalize sh.map pairV = V at *
      generalize O.map pairV = Om at *
      simp only [evF_end, end_nx, end_rt, FU, e_non, e_bl, e_int, e_str, e_ty, e_var, getV_some, e_glo, e_tup, e_lst, e_bin, e_neg, negV_int, e_not, e_and, e_or, andV_bl, orV_bl, and_pure, or_pure, e_cmp, e_chain, e_ite, e_idx, e_sli, e_gcd, e_sset, gcdV_int, e_call, callR_ret, e_bi, e_comp, l_nil, l_cons, s_nil, s_cons, then_nx, then_rt, turn_eq, ife_t, ife_f, ifeG_eq, c_asg, c_ret, c_retO, c_exp, c_ife, c_for, c_asgO, c_app, c_sset, g0, gS, st0, stS, thaw_tup, thaw_lst, thaw_own, thaw_int, thaw_bl, thaw_str, thaw_non, thaw_stm, own_tup, own_lst, own_own, own_int, own_bl, own_str, own_non, own_ty, own_stm, tru_bl, tru_int, seq_tup, seq_lst, seq_own, lst_lst, lst_own, add_int, sub_int, eq_int, ne_int, lt_int', le_int', gt_int', ge_int', ne_bl, eq_bl, idx_tup, idx_lst, idx_own, len_1, all_1, any_1, sum_1, tuple_1, list_1, sorted_1, int_1, abs_1, type_1, bind_nm, bind_tp, bind_ns, bind_tpl, min1_1, max1_1, mind_1, min2_1, max2_1, it_enum, enumB_lst, c_par, it_seq, it_rng1, it_rng2, rngA_int, rngB_int, it_zip, zip_tup, zip_lst, par_none, par_some, parB_int, sli_tup, sli_lst, step_none, step_some, wipe_nil, wipe_cons, List.map_cons, List.map_nil, List.length_cons, len_nil, List.all_cons, List.all_nil, List.replicate, List.cons_append, List.nil_append, List.append_nil, List.zip_cons_cons, List.zip_nil_right, List.foldl_cons, List.foldl_nil, eq_self, Option.bind_some, Option.map_some, Bool.not_false, Bool.not_true, Bool.true_and, Bool.and_true, Bool.false_and, Bool.and_false, Bool.or_true, Bool.true_or, Bool.or_false, Bool.false_or, if_true, Bool.false_eq_true, if_false, Nat.sub_self, Nat.reduceAdd, Nat.reduceSub, Nat.reduceEqDiff, ite_true, ite_false, Nat.reduceLeDiff, lo, c2]
    show (seqL (fun c env S => evS T FU c env S) P.c_may_join [some (shV sh), some (.int n), none, none] S).map endV = _
    unfold P.c_may_join
    rw [seqn s0, seqn s1, seqn s2, seqn s3, seqr s4]
    rfl
end Ws

/-! Ws109: the law's parts of shapes that are not enough. -/
namespace Ws
open PySem PySem.Spec L2

def ltB (a b : Int × Int) : Bool := decide (a.1 < b.1) || (decide (a.1 = b.1) && decide (a.2 < b.2))
theorem ltB_iff {a b : Int × Int} : ltB a b = true ↔ ltQ a b := by unfold ltB ltQ; simp
theorem gt_prs (a b : Int × Int) : cmpV .gt (pairV a) (pairV b) = some (ltB b a) := lt_pr2 (b.1, b.2, 0) (a.1, a.2, 0)
def apB (p : Int × Int) (l : List Int) : Bool := !(decide (p.1 ∈ l) || decide (p.2 ∈ l))
def LApOk (φ : Fn) : Prop := ∀ p l S, φ [pairV p, ptsV l] S = some (.ret (.bl (apB p l)), S)
theorem lawAp_ok {T : Tbl} : LApOk (evF T 2 P.c__law_apart) := by
  intro p l S
  have i0 : idxS S (pairV p) (.int 0) = some (.int p.1) := rfl
  have i1 : idxS S (pairV p) (.int 1) = some (.int p.2) := rfl
  have po : (pairV p).isOwn = false := rfl
  have mt : ∀ i, cmpV .mem (.int i) (ptsV l) = some (decide (i ∈ l)) := fun i => mem_tup
  unfold P.c__law_apart apB
  generalize pairV p = pd at *
  simp only [evF_end, end_nx, end_rt, FU, e_non, e_bl, e_int, e_str, e_ty, e_var, getV_some, e_glo, e_tup, e_lst, e_bin, e_neg, negV_int, e_not, e_and, e_or, andV_bl, orV_bl, and_pure, or_pure, e_cmp, e_chain, e_ite, e_idx, e_sli, e_gcd, e_sset, gcdV_int, e_call, callR_ret, e_bi, e_comp, l_nil, l_cons, s_nil, s_cons, then_nx, then_rt, turn_eq, ife_t, ife_f, ifeG_eq, c_asg, c_ret, c_retO, c_exp, c_ife, c_for, c_asgO, c_app, c_sset, g0, gS, st0, stS, thaw_tup, thaw_lst, thaw_own, thaw_int, thaw_bl, thaw_str, thaw_non, thaw_stm, own_tup, own_lst, own_own, own_int, own_bl, own_str, own_non, own_ty, own_stm, tru_bl, tru_int, seq_tup, seq_lst, seq_own, lst_lst, lst_own, add_int, sub_int, eq_int, ne_int, lt_int', le_int', gt_int', ge_int', ne_bl, eq_bl, idx_tup, idx_lst, idx_own, len_1, all_1, any_1, sum_1, tuple_1, list_1, sorted_1, int_1, abs_1, type_1, bind_nm, bind_tp, bind_ns, bind_tpl, min1_1, max1_1, mind_1, min2_1, max2_1, it_enum, enumB_lst, c_par, it_seq, it_rng1, it_rng2, rngA_int, rngB_int, it_zip, zip_tup, zip_lst, par_none, par_some, parB_int, sli_tup, sli_lst, step_none, step_some, wipe_nil, wipe_cons, List.map_cons, List.map_nil, List.length_cons, len_nil, List.all_cons, List.all_nil, List.replicate, List.cons_append, List.nil_append, List.append_nil, List.zip_cons_cons, List.zip_nil_right, List.foldl_cons, List.foldl_nil, eq_self, Option.bind_some, Option.map_some, Bool.not_false, Bool.not_true, Bool.true_and, Bool.and_true, Bool.false_and, Bool.and_false, Bool.or_true, Bool.true_or, Bool.or_false, Bool.false_or, if_true, Bool.false_eq_true, if_false, Nat.sub_self, Nat.reduceAdd, Nat.reduceSub, Nat.reduceEqDiff, ite_true, ite_false, Nat.reduceLeDiff, i0, i1, mt, pts_own]
def othL (sh : Sh) (p : Int × Int) : Sh := sh.filter fun q => ltB p q && apB p [q.1, q.2]
def inT (O : Sh) (p q : Int × Int) : List Sh := (O.filter fun r => ltB q r && apB q [r.1, r.2]).map fun r => [p, q, r]
def l3 (sh : Sh) : List Sh := sh.flatMap fun p => (othL sh p).flatMap fun q => inT (othL sh p) p q
abbrev tE (sh : Sh) (F : List Sh) (x2 x3 x4 x5 : Option PV) : Env := [some (shV sh), some (.lst (F.map shV)), x2, x3, x4, x5]
abbrev tO : CS := .asg (.nm 3) (.comp (.var 4) (.nm 4) (.seq (.var 0)) (some (.and (.cmp .gt (.var 4) (.var 2)) (.call "_law_apart" [(.var 2), (.var 4)]))) [("other", 4)])
abbrev tI3 : CS := .asg (.nm 1) (.bin .add (.var 1) (.comp (.tup [(.var 2), (.var 4), (.var 5)]) (.nm 5) (.seq (.var 3)) (some (.and (.cmp .gt (.var 5) (.var 4)) (.call "_law_apart" [(.var 4), (.var 5)]))) [("last", 5)]))
section
variable {T : Tbl} {S : Strm} {sh : Sh} {F : List Sh} {x2 x3 x4 x5 : Option PV} {p q : Int × Int}
theorem pp_pts (p : Int × Int) : ptsV [p.1, p.2] = pairV p := rfl
theorem t_oth {φ : Fn} (e : T.fn "_law_apart" = some (2, φ)) (h : LApOk φ) (h10 : sh.length ≤ 10) : evS T 59 tO (tE sh F (some (pairV p)) x3 x4 x5) S = some (.nx (tE sh F (some (pairV p)) (some (.lst ((othL sh p).map pairV))) x4 x5), S) := by
  have c : compL (stepV (fun e env S => evE T 59 e env S) (.var 4) (.nm 4) (some (.and (.cmp .gt (.var 4) (.var 2)) (.call "_law_apart" [(.var 2), (.var 4)]))) (tE sh F (some (pairV p)) x3 none x5)) (sh.map pairV) S = some ((othL sh p).map pairV, S) := by
    unfold othL
    refine compL_fil fun q hq => ?_
    have a := h p [q.1, q.2] S
    rw [pp_pts] at a
    have g := gt_prs q p
    have qo : (pairV q).isOwn = false := rfl
    have po : (pairV p).isOwn = false := rfl
    have qt : (pairV q).thaw = pairV q := rfl
    have pt : (pairV p).thaw = pairV p := rfl
    unfold tE
    generalize pairV q = qd at *
    generalize pairV p = pd at *
    generalize F.map shV = Fm at *
    generalize shV sh = V at *
    simp only [evF_end, end_nx, end_rt, FU, e_non, e_bl, e_int, e_str, e_ty, e_var, getV_some, e_glo, e_tup, e_lst, e_bin, e_neg, negV_int, e_not, e_and, e_or, andV_bl, orV_bl, and_pure, or_pure, e_cmp, e_chain, e_ite, e_idx, e_sli, e_gcd, e_sset, gcdV_int, e_call, callR_ret, e_bi, e_comp, l_nil, l_cons, s_nil, s_cons, then_nx, then_rt, turn_eq, ife_t, ife_f, ifeG_eq, c_asg, c_ret, c_retO, c_exp, c_ife, c_for, c_asgO, c_app, c_sset, g0, gS, st0, stS, thaw_tup, thaw_lst, thaw_own, thaw_int, thaw_bl, thaw_str, thaw_non, thaw_stm, own_tup, own_lst, own_own, own_int, own_bl, own_str, own_non, own_ty, own_stm, tru_bl, tru_int, seq_tup, seq_lst, seq_own, lst_lst, lst_own, add_int, sub_int, eq_int, ne_int, lt_int', le_int', gt_int', ge_int', ne_bl, eq_bl, idx_tup, idx_lst, idx_own, len_1, all_1, any_1, sum_1, tuple_1, list_1, sorted_1, int_1, abs_1, type_1, bind_nm, bind_tp, bind_ns, bind_tpl, min1_1, max1_1, mind_1, min2_1, max2_1, it_enum, enumB_lst, c_par, it_seq, it_rng1, it_rng2, rngA_int, rngB_int, it_zip, zip_tup, zip_lst, par_none, par_some, parB_int, sli_tup, sli_lst, step_none, step_some, wipe_nil, wipe_cons, List.map_cons, List.map_nil, List.length_cons, len_nil, List.all_cons, List.all_nil, List.replicate, List.cons_append, List.nil_append, List.append_nil, List.zip_cons_cons, List.zip_nil_right, List.foldl_cons, List.foldl_nil, eq_self, Option.bind_some, Option.map_some, Bool.not_false, Bool.not_true, Bool.true_and, Bool.and_true, Bool.false_and, Bool.and_false, Bool.or_true, Bool.true_or, Bool.or_false, Bool.false_or, if_true, Bool.false_eq_true, if_false, Nat.sub_self, Nat.reduceAdd, Nat.reduceSub, Nat.reduceEqDiff, ite_true, ite_false, Nat.reduceLeDiff, e, a, g, qo, po, qt, pt]
    cases ltB p q <;> cases apB p [q.1, q.2] <;> rfl
  have ll : (sh.map pairV).length ≤ LIM := by rw [List.length_map]; unfold LIM; omega
  have po : (pairV p).isOwn = false := rfl
  have sq : (shV sh).seq? = some (sh.map pairV) := rfl
  unfold tE at *
  generalize (othL sh p).map pairV = O at *
  generalize sh.map pairV = L at *
  generalize F.map shV = Fm at *
  generalize shV sh = V at *
  generalize pairV p = pd at *
  simp only [evF_end, end_nx, end_rt, FU, e_non, e_bl, e_int, e_str, e_ty, e_var, getV_some, e_glo, e_tup, e_lst, e_bin, e_neg, negV_int, e_not, e_and, e_or, andV_bl, orV_bl, and_pure, or_pure, e_cmp, e_chain, e_ite, e_idx, e_sli, e_gcd, e_sset, gcdV_int, e_call, callR_ret, e_bi, e_comp, l_nil, l_cons, s_nil, s_cons, then_nx, then_rt, turn_eq, ife_t, ife_f, ifeG_eq, c_asg, c_ret, c_retO, c_exp, c_ife, c_for, c_asgO, c_app, c_sset, g0, gS, st0, stS, thaw_tup, thaw_lst, thaw_own, thaw_int, thaw_bl, thaw_str, thaw_non, thaw_stm, own_tup, own_lst, own_own, own_int, own_bl, own_str, own_non, own_ty, own_stm, tru_bl, tru_int, seq_tup, seq_lst, seq_own, lst_lst, lst_own, add_int, sub_int, eq_int, ne_int, lt_int', le_int', gt_int', ge_int', ne_bl, eq_bl, idx_tup, idx_lst, idx_own, len_1, all_1, any_1, sum_1, tuple_1, list_1, sorted_1, int_1, abs_1, type_1, bind_nm, bind_tp, bind_ns, bind_tpl, min1_1, max1_1, mind_1, min2_1, max2_1, it_enum, enumB_lst, c_par, it_seq, it_rng1, it_rng2, rngA_int, rngB_int, it_zip, zip_tup, zip_lst, par_none, par_some, parB_int, sli_tup, sli_lst, step_none, step_some, wipe_nil, wipe_cons, List.map_cons, List.map_nil, List.length_cons, len_nil, List.all_cons, List.all_nil, List.replicate, List.cons_append, List.nil_append, List.append_nil, List.zip_cons_cons, List.zip_nil_right, List.foldl_cons, List.foldl_nil, eq_self, Option.bind_some, Option.map_some, Bool.not_false, Bool.not_true, Bool.true_and, Bool.and_true, Bool.false_and, Bool.and_false, Bool.or_true, Bool.true_or, Bool.or_false, Bool.false_or, if_true, Bool.false_eq_true, if_false, Nat.sub_self, Nat.reduceAdd, Nat.reduceSub, Nat.reduceEqDiff, ite_true, ite_false, Nat.reduceLeDiff, ll, c, sq]
theorem t_in {φ : Fn} (e : T.fn "_law_apart" = some (2, φ)) (h : LApOk φ) {O : Sh} (hO : O.length ≤ 10) (hF : F.length ≤ 900000) : bodyF T 58 (.nm 4) [tI3] (pairV q) (tE sh F (some (pairV p)) (some (.lst (O.map pairV))) x4 x5) S = some (.nx (tE sh (F ++ inT O p q) (some (pairV p)) (some (.lst (O.map pairV))) (some (pairV q)) x5), S) := by
  have L3 : decide (3 ≤ LIM) = true := by decide
  have c : compL (stepV (fun e env S => evE T 58 e env S) (.tup [(.var 2), (.var 4), (.var 5)]) (.nm 5) (some (.and (.cmp .gt (.var 5) (.var 4)) (.call "_law_apart" [(.var 4), (.var 5)]))) (tE sh F (some (pairV p)) (some (.lst (O.map pairV))) (some (pairV q)) none)) (O.map pairV) S = some ((inT O p q).map shV, S) := by
    have w := compL_map (f := pairV) (g := fun r => if ltB q r && apB q [r.1, r.2] then some (shV [p, q, r]) else none) (xs := O) (S := S) (step := stepV (fun e env S => evE T 58 e env S) (.tup [(.var 2), (.var 4), (.var 5)]) (.nm 5) (some (.and (.cmp .gt (.var 5) (.var 4)) (.call "_law_apart" [(.var 4), (.var 5)]))) (tE sh F (some (pairV p)) (some (.lst (O.map pairV))) (some (pairV q)) none)) fun r hr => by
      have a := h q [r.1, r.2] S
      rw [pp_pts] at a
      have g := gt_prs r q
      have e3 : shV [p, q, r] = .tup [pairV p, pairV q, pairV r] := rfl
      rw [e3]
      have qo : (pairV q).isOwn = false := rfl
      have po : (pairV p).isOwn = false := rfl
      have ro : (pairV r).isOwn = false := rfl
      have qt : (pairV q).thaw = pairV q := rfl
      have rt : (pairV r).thaw = pairV r := rfl
      unfold tE
      generalize O.map pairV = Om at *
      generalize F.map shV = Fm at *
      generalize shV sh = V at *
      generalize pairV r = rd at *
      generalize pairV q = qd at *
      generalize pairV p = pd at *
      simp only [evF_end, end_nx, end_rt, FU, e_non, e_bl, e_int, e_str, e_ty, e_var, getV_some, e_glo, e_tup, e_lst, e_bin, e_neg, negV_int, e_not, e_and, e_or, andV_bl, orV_bl, and_pure, or_pure, e_cmp, e_chain, e_ite, e_idx, e_sli, e_gcd, e_sset, gcdV_int, e_call, callR_ret, e_bi, e_comp, l_nil, l_cons, s_nil, s_cons, then_nx, then_rt, turn_eq, ife_t, ife_f, ifeG_eq, c_asg, c_ret, c_retO, c_exp, c_ife, c_for, c_asgO, c_app, c_sset, g0, gS, st0, stS, thaw_tup, thaw_lst, thaw_own, thaw_int, thaw_bl, thaw_str, thaw_non, thaw_stm, own_tup, own_lst, own_own, own_int, own_bl, own_str, own_non, own_ty, own_stm, tru_bl, tru_int, seq_tup, seq_lst, seq_own, lst_lst, lst_own, add_int, sub_int, eq_int, ne_int, lt_int', le_int', gt_int', ge_int', ne_bl, eq_bl, idx_tup, idx_lst, idx_own, len_1, all_1, any_1, sum_1, tuple_1, list_1, sorted_1, int_1, abs_1, type_1, bind_nm, bind_tp, bind_ns, bind_tpl, min1_1, max1_1, mind_1, min2_1, max2_1, it_enum, enumB_lst, c_par, it_seq, it_rng1, it_rng2, rngA_int, rngB_int, it_zip, zip_tup, zip_lst, par_none, par_some, parB_int, sli_tup, sli_lst, step_none, step_some, wipe_nil, wipe_cons, List.map_cons, List.map_nil, List.length_cons, len_nil, List.all_cons, List.all_nil, List.replicate, List.cons_append, List.nil_append, List.append_nil, List.zip_cons_cons, List.zip_nil_right, List.foldl_cons, List.foldl_nil, eq_self, Option.bind_some, Option.map_some, Bool.not_false, Bool.not_true, Bool.true_and, Bool.and_true, Bool.false_and, Bool.and_false, Bool.or_true, Bool.true_or, Bool.or_false, Bool.false_or, if_true, Bool.false_eq_true, if_false, Nat.sub_self, Nat.reduceAdd, Nat.reduceSub, Nat.reduceEqDiff, ite_true, ite_false, Nat.reduceLeDiff, e, a, g, qo, po, ro, qt, rt, L3]
      cases ltB q r <;> cases apB q [r.1, r.2] <;> rfl
    rw [filterMap_if (fun r => ltB q r && apB q [r.1, r.2]) fun r => shV [p, q, r]] at w
    rw [w]
    unfold inT
    rw [List.map_map]; rfl
  have lo : (O.map pairV).length ≤ LIM := by rw [List.length_map]; unfold LIM; omega
  have li : (inT O p q).length ≤ 10 := by unfold inT; rw [List.length_map]; exact Nat.le_trans (List.length_filter_le _ _) hO
  have ad : binV .add (.lst (F.map shV)) (.lst ((inT O p q).map shV)) = some (.lst ((F ++ inT O p q).map shV)) := by
    rw [add_lst, if_pos (by rw [List.length_map, List.length_map]; unfold LIM; omega), List.map_append]
  have qo : (pairV q).isOwn = false := rfl
  rw [body_eq]
  show (some (tE sh F (some (pairV p)) (some (.lst (O.map pairV))) (some (pairV q)) x5)).bind _ = _
  rw [Option.bind_some]
  have s : evS T 58 tI3 (tE sh F (some (pairV p)) (some (.lst (O.map pairV))) (some (pairV q)) x5) S = some (.nx (tE sh (F ++ inT O p q) (some (pairV p)) (some (.lst (O.map pairV))) (some (pairV q)) x5), S) := by
    unfold tE at *
    generalize (F ++ inT O p q).map shV = FI at *
    generalize (inT O p q).map shV = I at *
    generalize F.map shV = Fm at *
    generalize O.map pairV = Om at *
    generalize shV sh = V at *
    generalize pairV q = qd at *
    generalize pairV p = pd at *
    simp only [evF_end, end_nx, end_rt, FU, e_non, e_bl, e_int, e_str, e_ty, e_var, getV_some, e_glo, e_tup, e_lst, e_bin, e_neg, negV_int, e_not, e_and, e_or, andV_bl, orV_bl, and_pure, or_pure, e_cmp, e_chain, e_ite, e_idx, e_sli, e_gcd, e_sset, gcdV_int, e_call, callR_ret, e_bi, e_comp, l_nil, l_cons, s_nil, s_cons, then_nx, then_rt, turn_eq, ife_t, ife_f, ifeG_eq, c_asg, c_ret, c_retO, c_exp, c_ife, c_for, c_asgO, c_app, c_sset, g0, gS, st0, stS, thaw_tup, thaw_lst, thaw_own, thaw_int, thaw_bl, thaw_str, thaw_non, thaw_stm, own_tup, own_lst, own_own, own_int, own_bl, own_str, own_non, own_ty, own_stm, tru_bl, tru_int, seq_tup, seq_lst, seq_own, lst_lst, lst_own, add_int, sub_int, eq_int, ne_int, lt_int', le_int', gt_int', ge_int', ne_bl, eq_bl, idx_tup, idx_lst, idx_own, len_1, all_1, any_1, sum_1, tuple_1, list_1, sorted_1, int_1, abs_1, type_1, bind_nm, bind_tp, bind_ns, bind_tpl, min1_1, max1_1, mind_1, min2_1, max2_1, it_enum, enumB_lst, c_par, it_seq, it_rng1, it_rng2, rngA_int, rngB_int, it_zip, zip_tup, zip_lst, par_none, par_some, parB_int, sli_tup, sli_lst, step_none, step_some, wipe_nil, wipe_cons, List.map_cons, List.map_nil, List.length_cons, len_nil, List.all_cons, List.all_nil, List.replicate, List.cons_append, List.nil_append, List.append_nil, List.zip_cons_cons, List.zip_nil_right, List.foldl_cons, List.foldl_nil, eq_self, Option.bind_some, Option.map_some, Bool.not_false, Bool.not_true, Bool.true_and, Bool.and_true, Bool.false_and, Bool.and_false, Bool.or_true, Bool.true_or, Bool.or_false, Bool.false_or, if_true, Bool.false_eq_true, if_false, Nat.sub_self, Nat.reduceAdd, Nat.reduceSub, Nat.reduceEqDiff, ite_true, ite_false, Nat.reduceLeDiff, lo, c, ad]
  rw [seqn (ev := fun c env S => evS T 58 c env S) s]
  rfl
theorem t_ins {φ : Fn} (e : T.fn "_law_apart" = some (2, φ)) (h : LApOk φ) {O : Sh} (hO : O.length ≤ 10) : ∀ (Q : Sh) (F : List Sh) (x4 : Option PV), F.length + Q.length * 10 ≤ 900000 →
    ∃ y4, forL (bodyF T 58 (.nm 4) [tI3]) (Q.map pairV) (tE sh F (some (pairV p)) (some (.lst (O.map pairV))) x4 x5) S = some (.nx (tE sh (F ++ Q.flatMap (inT O p)) (some (pairV p)) (some (.lst (O.map pairV))) y4 x5), S)
  | [], F, x4, _ => ⟨x4, by simp [forL]⟩
  | q :: Q, F, x4, hF => by
    rw [List.length_cons] at hF
    have li : (inT O p q).length ≤ 10 := by unfold inT; rw [List.length_map]; exact Nat.le_trans (List.length_filter_le _ _) hO
    obtain ⟨y4, ih⟩ := t_ins e h hO Q (F ++ inT O p q) (some (pairV q)) (by rw [List.length_append]; omega)
    refine ⟨y4, ?_⟩
    rw [List.map_cons, forL, t_in e h hO (by omega), Option.bind_some]
    dsimp only
    rw [ih, List.append_assoc, List.flatMap_cons]
theorem t_out {φ : Fn} (e : T.fn "_law_apart" = some (2, φ)) (h : LApOk φ) (h10 : sh.length ≤ 10) (hF : F.length ≤ 800000) : ∃ y3 y4, bodyF T 59 (.nm 2) [tO, .for_ (.nm 4) (.seq (.var 3)) [tI3]] (pairV p) (tE sh F x2 x3 x4 x5) S = some (.nx (tE sh (F ++ (othL sh p).flatMap (inT (othL sh p) p)) (some (pairV p)) y3 y4 x5), S) := by
  have lo : (othL sh p).length ≤ 10 := Nat.le_trans (List.length_filter_le _ _) h10
  obtain ⟨y4, w⟩ := t_ins (T := T) (S := S) (sh := sh) (p := p) (x5 := x5) e h lo (othL sh p) F x4 (by omega)
  refine ⟨some (.lst ((othL sh p).map pairV)), y4, ?_⟩
  rw [body_eq]
  show (some (tE sh F (some (pairV p)) x3 x4 x5)).bind _ = _
  have s2 : evS T 59 (.for_ (.nm 4) (.seq (.var 3)) [tI3]) (tE sh F (some (pairV p)) (some (.lst ((othL sh p).map pairV))) x4 x5) S = some (.nx (tE sh (F ++ (othL sh p).flatMap (inT (othL sh p) p)) (some (pairV p)) (some (.lst ((othL sh p).map pairV))) y4 x5), S) := by
    rw [c_for, it_seq]
    exact w
  rw [Option.bind_some, seqn (ev := fun c env S => evS T 59 c env S) (t_oth e h h10), seqn (ev := fun c env S => evS T 59 c env S) s2]
  rfl
theorem t_outs {φ : Fn} (e : T.fn "_law_apart" = some (2, φ)) (h : LApOk φ) (h10 : sh.length ≤ 10) : ∀ (Q : Sh) (F : List Sh) (x2 x3 x4 : Option PV), F.length + Q.length * 100 ≤ 800000 →
    ∃ y2 y3 y4, forL (bodyF T 59 (.nm 2) [tO, .for_ (.nm 4) (.seq (.var 3)) [tI3]]) (Q.map pairV) (tE sh F x2 x3 x4 x5) S = some (.nx (tE sh (F ++ Q.flatMap fun p => (othL sh p).flatMap (inT (othL sh p) p)) y2 y3 y4 x5), S)
  | [], F, x2, x3, x4, _ => ⟨x2, x3, x4, by simp [forL]⟩
  | p :: Q, F, x2, x3, x4, hF => by
    rw [List.length_cons] at hF
    have lo : (othL sh p).length ≤ 10 := Nat.le_trans (List.length_filter_le _ _) h10
    have li : ((othL sh p).flatMap (inT (othL sh p) p)).length ≤ (othL sh p).length * 10 := len_fm fun q _ => by unfold inT; rw [List.length_map]; exact Nat.le_trans (List.length_filter_le _ _) lo
    obtain ⟨y3, y4, w⟩ := t_out (T := T) (S := S) (F := F) (p := p) (x2 := x2) (x3 := x3) (x4 := x4) (x5 := x5) e h h10 (by omega)
    obtain ⟨z2, z3, z4, ih⟩ := t_outs e h h10 Q (F ++ (othL sh p).flatMap (inT (othL sh p) p)) (some (pairV p)) y3 y4 (by rw [List.length_append]; omega)
    refine ⟨z2, z3, z4, ?_⟩
    rw [List.map_cons, forL, w, Option.bind_some]
    dsimp only
    rw [ih, List.append_assoc, List.flatMap_cons]
end
def L3Ok (φ : Fn) : Prop := ∀ sh S, sh.length ≤ 10 → φ [shV sh] S = some (.ret (.lst ((l3 sh).map shV)), S)
theorem law3_ok {T : Tbl} (H : ∃ φ, T.fn "_law_apart" = some (2, φ) ∧ LApOk φ) : L3Ok (evF T 6 P.c__law_three_apart) := by
  intro sh S h10
  obtain ⟨φ, e, h⟩ := H
  obtain ⟨y2, y3, y4, w⟩ := t_outs (T := T) (S := S) (x5 := none) e h h10 sh [] none none none (by simp; omega)
  rw [List.nil_append] at w
  have l0 : decide (0 ≤ LIM) = true := by decide
  have s0 : evS T FU (.asg (.nm 1) (.lst [])) [some (shV sh), none, none, none, none, none] S = some (.nx (tE sh [] none none none none), S) := by
    simp only [evF_end, end_nx, end_rt, FU, e_non, e_bl, e_int, e_str, e_ty, e_var, getV_some, e_glo, e_tup, e_lst, e_bin, e_neg, negV_int, e_not, e_and, e_or, andV_bl, orV_bl, and_pure, or_pure, e_cmp, e_chain, e_ite, e_idx, e_sli, e_gcd, e_sset, gcdV_int, e_call, callR_ret, e_bi, e_comp, l_nil, l_cons, s_nil, s_cons, then_nx, then_rt, turn_eq, ife_t, ife_f, ifeG_eq, c_asg, c_ret, c_retO, c_exp, c_ife, c_for, c_asgO, c_app, c_sset, g0, gS, st0, stS, thaw_tup, thaw_lst, thaw_own, thaw_int, thaw_bl, thaw_str, thaw_non, thaw_stm, own_tup, own_lst, own_own, own_int, own_bl, own_str, own_non, own_ty, own_stm, tru_bl, tru_int, seq_tup, seq_lst, seq_own, lst_lst, lst_own, add_int, sub_int, eq_int, ne_int, lt_int', le_int', gt_int', ge_int', ne_bl, eq_bl, idx_tup, idx_lst, idx_own, len_1, all_1, any_1, sum_1, tuple_1, list_1, sorted_1, int_1, abs_1, type_1, bind_nm, bind_tp, bind_ns, bind_tpl, min1_1, max1_1, mind_1, min2_1, max2_1, it_enum, enumB_lst, c_par, it_seq, it_rng1, it_rng2, rngA_int, rngB_int, it_zip, zip_tup, zip_lst, par_none, par_some, parB_int, sli_tup, sli_lst, step_none, step_some, wipe_nil, wipe_cons, List.map_cons, List.map_nil, List.length_cons, len_nil, List.all_cons, List.all_nil, List.replicate, List.cons_append, List.nil_append, List.append_nil, List.zip_cons_cons, List.zip_nil_right, List.foldl_cons, List.foldl_nil, eq_self, Option.bind_some, Option.map_some, Bool.not_false, Bool.not_true, Bool.true_and, Bool.and_true, Bool.false_and, Bool.and_false, Bool.or_true, Bool.true_or, Bool.or_false, Bool.false_or, if_true, Bool.false_eq_true, if_false, Nat.sub_self, Nat.reduceAdd, Nat.reduceSub, Nat.reduceEqDiff, ite_true, ite_false, Nat.reduceLeDiff, l0]
    rfl
  have s1 : evS T FU (.for_ (.nm 2) (.seq (.var 0)) [tO, .for_ (.nm 4) (.seq (.var 3)) [tI3]]) (tE sh [] none none none none) S = some (.nx (tE sh (l3 sh) y2 y3 y4 none), S) := by
    rw [c_for, it_seq]
    exact w
  have s2 : evS T FU (.ret (.var 1)) (tE sh (l3 sh) y2 y3 y4 none) S = some (.rt (.lst ((l3 sh).map shV)), S) := rfl
  show (seqL (fun c env S => evS T FU c env S) P.c__law_three_apart [some (shV sh), none, none, none, none, none] S).map endV = _
  unfold P.c__law_three_apart
  rw [seqn s0, seqn s1, seqr s2]
  rfl
/-! triangles -/
def cho3 : List Lk := [(0 : Int), 1, 2, 3, 4, 5, 6].flatMap fun x => ([(0 : Int), 1, 2, 3, 4, 5, 6].filter fun y => decide (x < y)).flatMap fun y => ([(0 : Int), 1, 2, 3, 4, 5, 6].filter fun z => decide (y < z)).map fun z => (x, y, z)
theorem choices3 {T : Tbl} {S : Strm} : evF T 7 P.c__law_choices [.lst (rangeV 0 7), .int 3] S = some (.ret (.lst (cho3.map lk)), S) := by kernel_rfl
def Choices3Ok (φ : Fn) : Prop := ∀ S, φ [.lst (rangeV 0 7), .int 3] S = some (.ret (.lst (cho3.map lk)), S)
theorem choices_ok {T : Tbl} : Choices3Ok (evF T 7 P.c__law_choices) := fun S => choices3
theorem cho3_len : cho3.length = 35 := by decide +kernel
def restT (sh : Sh) (t : Lk) : Sh := sh.filter fun d => apB d [t.1, t.2.1, t.2.2]
def isTri (sh : Sh) (t : Lk) : Bool := decide ((t.1, t.2.1) ∈ sh) && (decide ((t.1, t.2.2) ∈ sh) && decide ((t.2.1, t.2.2) ∈ sh))
def triT (sh : Sh) (t : Lk) : List Sh := if isTri sh t then (restT sh t).map fun d => [(t.1, t.2.1), (t.1, t.2.2), (t.2.1, t.2.2), d] else []
def lT (sh : Sh) : List Sh := cho3.flatMap (triT sh)
abbrev uE (sh : Sh) (F : List Sh) (x2 x3 x4 x5 x6 : Option PV) : Env := [some (shV sh), some (.lst (F.map shV)), x2, x3, x4, x5, x6]
abbrev uC : CE := .and (.cmp .mem (.tup [(.var 2), (.var 3)]) (.var 0)) (.and (.cmp .mem (.tup [(.var 2), (.var 4)]) (.var 0)) (.cmp .mem (.tup [(.var 3), (.var 4)]) (.var 0)))
abbrev u1 : CS := .asg (.nm 5) (.comp (.var 6) (.nm 6) (.seq (.var 0)) (some (.call "_law_apart" [(.var 6), (.tup [(.var 2), (.var 3), (.var 4)])])) [("pair", 6)])
abbrev u2 : CS := .asg (.nm 1) (.bin .add (.var 1) (.comp (.tup [(.tup [(.var 2), (.var 3)]), (.tup [(.var 2), (.var 4)]), (.tup [(.var 3), (.var 4)]), (.var 6)]) (.nm 6) (.seq (.var 5)) none [("pair", 6)]))
section
variable {T : Tbl} {S : Strm} {sh : Sh} {F : List Sh} {x2 x3 x4 x5 x6 : Option PV} {t : Lk}
theorem L2d' : decide (2 ≤ LIM) = true := by decide
theorem u_cond : evE T FU uC (uE sh F (some (.int t.1)) (some (.int t.2.1)) (some (.int t.2.2)) x5 x6) S = some (.bl (isTri sh t), S) := by
  have m1 := mem_sh (q := (t.1, t.2.1)) (A := sh)
  have m2 := mem_sh (q := (t.1, t.2.2)) (A := sh)
  have m3 := mem_sh (q := (t.2.1, t.2.2)) (A := sh)
  unfold pairV at m1 m2 m3
  unfold isTri
  have d2 := L2d'
  have wo : (shV sh).isOwn = false := rfl
  unfold uE
  generalize F.map shV = Fm at *
  generalize shV sh = V at *
  simp only [evF_end, end_nx, end_rt, FU, e_non, e_bl, e_int, e_str, e_ty, e_var, getV_some, e_glo, e_tup, e_lst, e_bin, e_neg, negV_int, e_not, e_and, e_or, andV_bl, orV_bl, and_pure, or_pure, e_cmp, e_chain, e_ite, e_idx, e_sli, e_gcd, e_sset, gcdV_int, e_call, callR_ret, e_bi, e_comp, l_nil, l_cons, s_nil, s_cons, then_nx, then_rt, turn_eq, ife_t, ife_f, ifeG_eq, c_asg, c_ret, c_retO, c_exp, c_ife, c_for, c_asgO, c_app, c_sset, g0, gS, st0, stS, thaw_tup, thaw_lst, thaw_own, thaw_int, thaw_bl, thaw_str, thaw_non, thaw_stm, own_tup, own_lst, own_own, own_int, own_bl, own_str, own_non, own_ty, own_stm, tru_bl, tru_int, seq_tup, seq_lst, seq_own, lst_lst, lst_own, add_int, sub_int, eq_int, ne_int, lt_int', le_int', gt_int', ge_int', ne_bl, eq_bl, idx_tup, idx_lst, idx_own, len_1, all_1, any_1, sum_1, tuple_1, list_1, sorted_1, int_1, abs_1, type_1, bind_nm, bind_tp, bind_ns, bind_tpl, min1_1, max1_1, mind_1, min2_1, max2_1, it_enum, enumB_lst, c_par, it_seq, it_rng1, it_rng2, rngA_int, rngB_int, it_zip, zip_tup, zip_lst, par_none, par_some, parB_int, sli_tup, sli_lst, step_none, step_some, wipe_nil, wipe_cons, List.map_cons, List.map_nil, List.length_cons, len_nil, List.all_cons, List.all_nil, List.replicate, List.cons_append, List.nil_append, List.append_nil, List.zip_cons_cons, List.zip_nil_right, List.foldl_cons, List.foldl_nil, eq_self, Option.bind_some, Option.map_some, Bool.not_false, Bool.not_true, Bool.true_and, Bool.and_true, Bool.false_and, Bool.and_false, Bool.or_true, Bool.true_or, Bool.or_false, Bool.false_or, if_true, Bool.false_eq_true, if_false, Nat.sub_self, Nat.reduceAdd, Nat.reduceSub, Nat.reduceEqDiff, ite_true, ite_false, Nat.reduceLeDiff, m1, m2, m3, d2]
theorem u_rest {φ : Fn} (e : T.fn "_law_apart" = some (2, φ)) (h : LApOk φ) (h10 : sh.length ≤ 10) : evS T 58 u1 (uE sh F (some (.int t.1)) (some (.int t.2.1)) (some (.int t.2.2)) x5 x6) S = some (.nx (uE sh F (some (.int t.1)) (some (.int t.2.1)) (some (.int t.2.2)) (some (.lst ((restT sh t).map pairV))) x6), S) := by
  have L3 : decide (3 ≤ LIM) = true := by decide
  have c : compL (stepV (fun e env S => evE T 59 e env S) (.var 6) (.nm 6) (some (.call "_law_apart" [(.var 6), (.tup [(.var 2), (.var 3), (.var 4)])])) (uE sh F (some (.int t.1)) (some (.int t.2.1)) (some (.int t.2.2)) x5 none)) (sh.map pairV) S = some ((restT sh t).map pairV, S) := by
    unfold restT
    refine compL_fil fun d hd => ?_
    have a := h d [t.1, t.2.1, t.2.2] S
    have e3 : ptsV [t.1, t.2.1, t.2.2] = .tup [.int t.1, .int t.2.1, .int t.2.2] := rfl
    rw [e3] at a
    have po : (pairV d).isOwn = false := rfl
    have pt : (pairV d).thaw = pairV d := rfl
    unfold uE
    generalize pairV d = pd at *
    generalize F.map shV = Fm at *
    generalize shV sh = V at *
    simp only [evF_end, end_nx, end_rt, FU, e_non, e_bl, e_int, e_str, e_ty, e_var, getV_some, e_glo, e_tup, e_lst, e_bin, e_neg, negV_int, e_not, e_and, e_or, andV_bl, orV_bl, and_pure, or_pure, e_cmp, e_chain, e_ite, e_idx, e_sli, e_gcd, e_sset, gcdV_int, e_call, callR_ret, e_bi, e_comp, l_nil, l_cons, s_nil, s_cons, then_nx, then_rt, turn_eq, ife_t, ife_f, ifeG_eq, c_asg, c_ret, c_retO, c_exp, c_ife, c_for, c_asgO, c_app, c_sset, g0, gS, st0, stS, thaw_tup, thaw_lst, thaw_own, thaw_int, thaw_bl, thaw_str, thaw_non, thaw_stm, own_tup, own_lst, own_own, own_int, own_bl, own_str, own_non, own_ty, own_stm, tru_bl, tru_int, seq_tup, seq_lst, seq_own, lst_lst, lst_own, add_int, sub_int, eq_int, ne_int, lt_int', le_int', gt_int', ge_int', ne_bl, eq_bl, idx_tup, idx_lst, idx_own, len_1, all_1, any_1, sum_1, tuple_1, list_1, sorted_1, int_1, abs_1, type_1, bind_nm, bind_tp, bind_ns, bind_tpl, min1_1, max1_1, mind_1, min2_1, max2_1, it_enum, enumB_lst, c_par, it_seq, it_rng1, it_rng2, rngA_int, rngB_int, it_zip, zip_tup, zip_lst, par_none, par_some, parB_int, sli_tup, sli_lst, step_none, step_some, wipe_nil, wipe_cons, List.map_cons, List.map_nil, List.length_cons, len_nil, List.all_cons, List.all_nil, List.replicate, List.cons_append, List.nil_append, List.append_nil, List.zip_cons_cons, List.zip_nil_right, List.foldl_cons, List.foldl_nil, eq_self, Option.bind_some, Option.map_some, Bool.not_false, Bool.not_true, Bool.true_and, Bool.and_true, Bool.false_and, Bool.and_false, Bool.or_true, Bool.true_or, Bool.or_false, Bool.false_or, if_true, Bool.false_eq_true, if_false, Nat.sub_self, Nat.reduceAdd, Nat.reduceSub, Nat.reduceEqDiff, ite_true, ite_false, Nat.reduceLeDiff, e, a, po, pt, L3]
    cases apB d [t.1, t.2.1, t.2.2] <;> rfl
  have ll : (sh.map pairV).length ≤ LIM := by rw [List.length_map]; unfold LIM; omega
  have sq : (shV sh).seq? = some (sh.map pairV) := rfl
  have wo : (shV sh).isOwn = false := rfl
  unfold uE at *
  generalize (restT sh t).map pairV = O at *
  generalize F.map shV = Fm at *
  generalize sh.map pairV = L at *
  generalize shV sh = V at *
  simp only [evF_end, end_nx, end_rt, FU, e_non, e_bl, e_int, e_str, e_ty, e_var, getV_some, e_glo, e_tup, e_lst, e_bin, e_neg, negV_int, e_not, e_and, e_or, andV_bl, orV_bl, and_pure, or_pure, e_cmp, e_chain, e_ite, e_idx, e_sli, e_gcd, e_sset, gcdV_int, e_call, callR_ret, e_bi, e_comp, l_nil, l_cons, s_nil, s_cons, then_nx, then_rt, turn_eq, ife_t, ife_f, ifeG_eq, c_asg, c_ret, c_retO, c_exp, c_ife, c_for, c_asgO, c_app, c_sset, g0, gS, st0, stS, thaw_tup, thaw_lst, thaw_own, thaw_int, thaw_bl, thaw_str, thaw_non, thaw_stm, own_tup, own_lst, own_own, own_int, own_bl, own_str, own_non, own_ty, own_stm, tru_bl, tru_int, seq_tup, seq_lst, seq_own, lst_lst, lst_own, add_int, sub_int, eq_int, ne_int, lt_int', le_int', gt_int', ge_int', ne_bl, eq_bl, idx_tup, idx_lst, idx_own, len_1, all_1, any_1, sum_1, tuple_1, list_1, sorted_1, int_1, abs_1, type_1, bind_nm, bind_tp, bind_ns, bind_tpl, min1_1, max1_1, mind_1, min2_1, max2_1, it_enum, enumB_lst, c_par, it_seq, it_rng1, it_rng2, rngA_int, rngB_int, it_zip, zip_tup, zip_lst, par_none, par_some, parB_int, sli_tup, sli_lst, step_none, step_some, wipe_nil, wipe_cons, List.map_cons, List.map_nil, List.length_cons, len_nil, List.all_cons, List.all_nil, List.replicate, List.cons_append, List.nil_append, List.append_nil, List.zip_cons_cons, List.zip_nil_right, List.foldl_cons, List.foldl_nil, eq_self, Option.bind_some, Option.map_some, Bool.not_false, Bool.not_true, Bool.true_and, Bool.and_true, Bool.false_and, Bool.and_false, Bool.or_true, Bool.true_or, Bool.or_false, Bool.false_or, if_true, Bool.false_eq_true, if_false, Nat.sub_self, Nat.reduceAdd, Nat.reduceSub, Nat.reduceEqDiff, ite_true, ite_false, Nat.reduceLeDiff, sq, ll, c]
theorem u_add (hr : (restT sh t).length ≤ 10) (hF : F.length ≤ 900000) : evS T 58 u2 (uE sh F (some (.int t.1)) (some (.int t.2.1)) (some (.int t.2.2)) (some (.lst ((restT sh t).map pairV))) x6) S = some (.nx (uE sh (F ++ (restT sh t).map fun d => [(t.1, t.2.1), (t.1, t.2.2), (t.2.1, t.2.2), d]) (some (.int t.1)) (some (.int t.2.1)) (some (.int t.2.2)) (some (.lst ((restT sh t).map pairV))) x6), S) := by
  have L4 : decide (4 ≤ LIM) = true := by decide
  have L2 := L2d'
  have c : compL (stepV (fun e env S => evE T 58 e env S) (.tup [(.tup [(.var 2), (.var 3)]), (.tup [(.var 2), (.var 4)]), (.tup [(.var 3), (.var 4)]), (.var 6)]) (.nm 6) none (uE sh F (some (.int t.1)) (some (.int t.2.1)) (some (.int t.2.2)) (some (.lst ((restT sh t).map pairV))) none)) ((restT sh t).map pairV) S = some (((restT sh t).map fun d => [(t.1, t.2.1), (t.1, t.2.2), (t.2.1, t.2.2), d]).map shV, S) := by
    rw [List.map_map]
    refine compL_maps fun d hd => ?_
    have e4 : (shV ∘ fun d => [(t.1, t.2.1), (t.1, t.2.2), (t.2.1, t.2.2), d]) d = .tup [.tup [.int t.1, .int t.2.1], .tup [.int t.1, .int t.2.2], .tup [.int t.2.1, .int t.2.2], pairV d] := rfl
    rw [e4]
    have po : (pairV d).isOwn = false := rfl
    unfold uE
    generalize (restT sh t).map pairV = O at *
    generalize pairV d = pd at *
    generalize F.map shV = Fm at *
    generalize shV sh = V at *
    simp only [evF_end, end_nx, end_rt, FU, e_non, e_bl, e_int, e_str, e_ty, e_var, getV_some, e_glo, e_tup, e_lst, e_bin, e_neg, negV_int, e_not, e_and, e_or, andV_bl, orV_bl, and_pure, or_pure, e_cmp, e_chain, e_ite, e_idx, e_sli, e_gcd, e_sset, gcdV_int, e_call, callR_ret, e_bi, e_comp, l_nil, l_cons, s_nil, s_cons, then_nx, then_rt, turn_eq, ife_t, ife_f, ifeG_eq, c_asg, c_ret, c_retO, c_exp, c_ife, c_for, c_asgO, c_app, c_sset, g0, gS, st0, stS, thaw_tup, thaw_lst, thaw_own, thaw_int, thaw_bl, thaw_str, thaw_non, thaw_stm, own_tup, own_lst, own_own, own_int, own_bl, own_str, own_non, own_ty, own_stm, tru_bl, tru_int, seq_tup, seq_lst, seq_own, lst_lst, lst_own, add_int, sub_int, eq_int, ne_int, lt_int', le_int', gt_int', ge_int', ne_bl, eq_bl, idx_tup, idx_lst, idx_own, len_1, all_1, any_1, sum_1, tuple_1, list_1, sorted_1, int_1, abs_1, type_1, bind_nm, bind_tp, bind_ns, bind_tpl, min1_1, max1_1, mind_1, min2_1, max2_1, it_enum, enumB_lst, c_par, it_seq, it_rng1, it_rng2, rngA_int, rngB_int, it_zip, zip_tup, zip_lst, par_none, par_some, parB_int, sli_tup, sli_lst, step_none, step_some, wipe_nil, wipe_cons, List.map_cons, List.map_nil, List.length_cons, len_nil, List.all_cons, List.all_nil, List.replicate, List.cons_append, List.nil_append, List.append_nil, List.zip_cons_cons, List.zip_nil_right, List.foldl_cons, List.foldl_nil, eq_self, Option.bind_some, Option.map_some, Bool.not_false, Bool.not_true, Bool.true_and, Bool.and_true, Bool.false_and, Bool.and_false, Bool.or_true, Bool.true_or, Bool.or_false, Bool.false_or, if_true, Bool.false_eq_true, if_false, Nat.sub_self, Nat.reduceAdd, Nat.reduceSub, Nat.reduceEqDiff, ite_true, ite_false, Nat.reduceLeDiff, po, L4, L2]
  have ll : ((restT sh t).map pairV).length ≤ LIM := by rw [List.length_map]; unfold LIM; omega
  have ad : binV .add (.lst (F.map shV)) (.lst (((restT sh t).map fun d => [(t.1, t.2.1), (t.1, t.2.2), (t.2.1, t.2.2), d]).map shV)) = some (.lst ((F ++ (restT sh t).map fun d => [(t.1, t.2.1), (t.1, t.2.2), (t.2.1, t.2.2), d]).map shV)) := by
    rw [add_lst, if_pos (by rw [List.length_map, List.length_map, List.length_map]; unfold LIM; omega), List.map_append]
  unfold uE at *
  generalize (F ++ (restT sh t).map fun d => [(t.1, t.2.1), (t.1, t.2.2), (t.2.1, t.2.2), d]).map shV = FI at *
  generalize ((restT sh t).map fun d => [(t.1, t.2.1), (t.1, t.2.2), (t.2.1, t.2.2), d]).map shV = I at *
  generalize (restT sh t).map pairV = O at *
  generalize F.map shV = Fm at *
  generalize shV sh = V at *
  simp only [evF_end, end_nx, end_rt, FU, e_non, e_bl, e_int, e_str, e_ty, e_var, getV_some, e_glo, e_tup, e_lst, e_bin, e_neg, negV_int, e_not, e_and, e_or, andV_bl, orV_bl, and_pure, or_pure, e_cmp, e_chain, e_ite, e_idx, e_sli, e_gcd, e_sset, gcdV_int, e_call, callR_ret, e_bi, e_comp, l_nil, l_cons, s_nil, s_cons, then_nx, then_rt, turn_eq, ife_t, ife_f, ifeG_eq, c_asg, c_ret, c_retO, c_exp, c_ife, c_for, c_asgO, c_app, c_sset, g0, gS, st0, stS, thaw_tup, thaw_lst, thaw_own, thaw_int, thaw_bl, thaw_str, thaw_non, thaw_stm, own_tup, own_lst, own_own, own_int, own_bl, own_str, own_non, own_ty, own_stm, tru_bl, tru_int, seq_tup, seq_lst, seq_own, lst_lst, lst_own, add_int, sub_int, eq_int, ne_int, lt_int', le_int', gt_int', ge_int', ne_bl, eq_bl, idx_tup, idx_lst, idx_own, len_1, all_1, any_1, sum_1, tuple_1, list_1, sorted_1, int_1, abs_1, type_1, bind_nm, bind_tp, bind_ns, bind_tpl, min1_1, max1_1, mind_1, min2_1, max2_1, it_enum, enumB_lst, c_par, it_seq, it_rng1, it_rng2, rngA_int, rngB_int, it_zip, zip_tup, zip_lst, par_none, par_some, parB_int, sli_tup, sli_lst, step_none, step_some, wipe_nil, wipe_cons, List.map_cons, List.map_nil, List.length_cons, len_nil, List.all_cons, List.all_nil, List.replicate, List.cons_append, List.nil_append, List.append_nil, List.zip_cons_cons, List.zip_nil_right, List.foldl_cons, List.foldl_nil, eq_self, Option.bind_some, Option.map_some, Bool.not_false, Bool.not_true, Bool.true_and, Bool.and_true, Bool.false_and, Bool.and_false, Bool.or_true, Bool.true_or, Bool.or_false, Bool.false_or, if_true, Bool.false_eq_true, if_false, Nat.sub_self, Nat.reduceAdd, Nat.reduceSub, Nat.reduceEqDiff, ite_true, ite_false, Nat.reduceLeDiff, ll, c, ad]
theorem u_turn {φ : Fn} (e : T.fn "_law_apart" = some (2, φ)) (h : LApOk φ) (h10 : sh.length ≤ 10) (hF : F.length ≤ 900000) : ∃ y2 y3 y4 y5, bodyF T 59 (.tp [2, 3, 4]) [.ife uC [u1, u2] []] (lk t) (uE sh F x2 x3 x4 x5 x6) S = some (.nx (uE sh (F ++ triT sh t) y2 y3 y4 y5 x6), S) := by
  have hr : (restT sh t).length ≤ 10 := Nat.le_trans (List.length_filter_le _ _) h10
  rw [body_eq]
  show ∃ y2 y3 y4 y5, (some (uE sh F (some (.int t.1)) (some (.int t.2.1)) (some (.int t.2.2)) x5 x6)).bind _ = _
  simp only [Option.bind_some]
  cases hb : isTri sh t with
  | true =>
    refine ⟨some (.int t.1), some (.int t.2.1), some (.int t.2.2), some (.lst ((restT sh t).map pairV)), ?_⟩
    rw [s_cons, c_ife, u_cond, hb, Option.bind_some]
    show ((seqL (fun c env S => evS T 58 c env S) [u1, u2] (uE sh F (some (.int t.1)) (some (.int t.2.1)) (some (.int t.2.2)) x5 x6) S).bind _) = _
    rw [seqn (ev := fun c env S => evS T 58 c env S) (u_rest e h h10), seqn (ev := fun c env S => evS T 58 c env S) (u_add hr hF)]
    unfold triT
    rw [hb]
    rfl
  | false =>
    refine ⟨some (.int t.1), some (.int t.2.1), some (.int t.2.2), x5, ?_⟩
    rw [s_cons, c_ife, u_cond, hb, Option.bind_some]
    unfold triT
    rw [hb, if_neg Bool.false_ne_true, List.append_nil]
    rfl
theorem triT_len (h10 : sh.length ≤ 10) : (triT sh t).length ≤ 10 := by
  unfold triT
  split
  · rw [List.length_map]; exact Nat.le_trans (List.length_filter_le _ _) h10
  · simp
theorem u_turns {φ : Fn} (e : T.fn "_law_apart" = some (2, φ)) (h : LApOk φ) (h10 : sh.length ≤ 10) : ∀ (Q : List Lk) (F : List Sh) (x2 x3 x4 x5 : Option PV), F.length + Q.length * 10 ≤ 900000 →
    ∃ y2 y3 y4 y5, forL (bodyF T 59 (.tp [2, 3, 4]) [.ife uC [u1, u2] []]) (Q.map lk) (uE sh F x2 x3 x4 x5 x6) S = some (.nx (uE sh (F ++ Q.flatMap (triT sh)) y2 y3 y4 y5 x6), S)
  | [], F, x2, x3, x4, x5, _ => ⟨x2, x3, x4, x5, by simp [forL]⟩
  | t :: Q, F, x2, x3, x4, x5, hF => by
    rw [List.length_cons] at hF
    have li := triT_len (t := t) h10
    obtain ⟨y2, y3, y4, y5, w⟩ := u_turn (T := T) (S := S) (F := F) (t := t) (x2 := x2) (x3 := x3) (x4 := x4) (x5 := x5) (x6 := x6) e h h10 (by omega)
    obtain ⟨z2, z3, z4, z5, ih⟩ := u_turns e h h10 Q (F ++ triT sh t) y2 y3 y4 y5 (by rw [List.length_append]; omega)
    refine ⟨z2, z3, z4, z5, ?_⟩
    rw [List.map_cons, forL, w, Option.bind_some]
    dsimp only
    rw [ih, List.append_assoc, List.flatMap_cons]
end
def LTOk (φ : Fn) : Prop := ∀ sh S, sh.length ≤ 10 → φ [shV sh] S = some (.ret (.lst ((lT sh).map shV)), S)
theorem lawT_ok {T : Tbl} (H : ∃ φ, T.fn "_law_apart" = some (2, φ) ∧ LApOk φ) (H2 : ∃ φ, T.fn "_law_choices" = some (2, φ) ∧ Choices3Ok φ) : LTOk (evF T 7 P.c__law_triangles) := by
  intro sh S h10
  obtain ⟨φ, e, h⟩ := H
  obtain ⟨φ2, e2, h2⟩ := H2
  have a2 := h2 S
  obtain ⟨y2, y3, y4, y5, w⟩ := u_turns (T := T) (S := S) (x6 := none) e h h10 cho3 [] none none none none (by rw [cho3_len]; decide)
  rw [List.nil_append] at w
  have l0 : decide (0 ≤ LIM) = true := by decide
  have s0 : evS T FU (.asg (.nm 1) (.lst [])) [some (shV sh), none, none, none, none, none, none] S = some (.nx (uE sh [] none none none none none), S) := by
    simp only [evF_end, end_nx, end_rt, FU, e_non, e_bl, e_int, e_str, e_ty, e_var, getV_some, e_glo, e_tup, e_lst, e_bin, e_neg, negV_int, e_not, e_and, e_or, andV_bl, orV_bl, and_pure, or_pure, e_cmp, e_chain, e_ite, e_idx, e_sli, e_gcd, e_sset, gcdV_int, e_call, callR_ret, e_bi, e_comp, l_nil, l_cons, s_nil, s_cons, then_nx, then_rt, turn_eq, ife_t, ife_f, ifeG_eq, c_asg, c_ret, c_retO, c_exp, c_ife, c_for, c_asgO, c_app, c_sset, g0, gS, st0, stS, thaw_tup, thaw_lst, thaw_own, thaw_int, thaw_bl, thaw_str, thaw_non, thaw_stm, own_tup, own_lst, own_own, own_int, own_bl, own_str, own_non, own_ty, own_stm, tru_bl, tru_int, seq_tup, seq_lst, seq_own, lst_lst, lst_own, add_int, sub_int, eq_int, ne_int, lt_int', le_int', gt_int', ge_int', ne_bl, eq_bl, idx_tup, idx_lst, idx_own, len_1, all_1, any_1, sum_1, tuple_1, list_1, sorted_1, int_1, abs_1, type_1, bind_nm, bind_tp, bind_ns, bind_tpl, min1_1, max1_1, mind_1, min2_1, max2_1, it_enum, enumB_lst, c_par, it_seq, it_rng1, it_rng2, rngA_int, rngB_int, it_zip, zip_tup, zip_lst, par_none, par_some, parB_int, sli_tup, sli_lst, step_none, step_some, wipe_nil, wipe_cons, List.map_cons, List.map_nil, List.length_cons, len_nil, List.all_cons, List.all_nil, List.replicate, List.cons_append, List.nil_append, List.append_nil, List.zip_cons_cons, List.zip_nil_right, List.foldl_cons, List.foldl_nil, eq_self, Option.bind_some, Option.map_some, Bool.not_false, Bool.not_true, Bool.true_and, Bool.and_true, Bool.false_and, Bool.and_false, Bool.or_true, Bool.true_or, Bool.or_false, Bool.false_or, if_true, Bool.false_eq_true, if_false, Nat.sub_self, Nat.reduceAdd, Nat.reduceSub, Nat.reduceEqDiff, ite_true, ite_false, Nat.reduceLeDiff, l0]
    rfl
  have rg : rgV1 false (.int 7, S) = some (.lst (rangeV 0 7), S) := by rfl
  have ca : evE T FU (.call "_law_choices" [(.rg1 false (.int 7)), (.int 3)]) (uE sh [] none none none none none) S = some (.lst (cho3.map lk), S) := by
    have lo : (PV.lst (rangeV 0 7)).isOwn = false := rfl
    have lt : (PV.lst (rangeV 0 7)).thaw = .lst (rangeV 0 7) := rfl
    generalize cho3.map lk = C at *
    generalize PV.lst (rangeV 0 7) = V7 at *
    simp only [evF_end, end_nx, end_rt, FU, e_non, e_bl, e_int, e_str, e_ty, e_var, getV_some, e_glo, e_tup, e_lst, e_bin, e_neg, negV_int, e_not, e_and, e_or, andV_bl, orV_bl, and_pure, or_pure, e_cmp, e_chain, e_ite, e_idx, e_sli, e_gcd, e_sset, gcdV_int, e_call, callR_ret, e_bi, e_comp, l_nil, l_cons, s_nil, s_cons, then_nx, then_rt, turn_eq, ife_t, ife_f, ifeG_eq, c_asg, c_ret, c_retO, c_exp, c_ife, c_for, c_asgO, c_app, c_sset, g0, gS, st0, stS, thaw_tup, thaw_lst, thaw_own, thaw_int, thaw_bl, thaw_str, thaw_non, thaw_stm, own_tup, own_lst, own_own, own_int, own_bl, own_str, own_non, own_ty, own_stm, tru_bl, tru_int, seq_tup, seq_lst, seq_own, lst_lst, lst_own, add_int, sub_int, eq_int, ne_int, lt_int', le_int', gt_int', ge_int', ne_bl, eq_bl, idx_tup, idx_lst, idx_own, len_1, all_1, any_1, sum_1, tuple_1, list_1, sorted_1, int_1, abs_1, type_1, bind_nm, bind_tp, bind_ns, bind_tpl, min1_1, max1_1, mind_1, min2_1, max2_1, it_enum, enumB_lst, c_par, it_seq, it_rng1, it_rng2, rngA_int, rngB_int, it_zip, zip_tup, zip_lst, par_none, par_some, parB_int, sli_tup, sli_lst, step_none, step_some, wipe_nil, wipe_cons, List.map_cons, List.map_nil, List.length_cons, len_nil, List.all_cons, List.all_nil, List.replicate, List.cons_append, List.nil_append, List.append_nil, List.zip_cons_cons, List.zip_nil_right, List.foldl_cons, List.foldl_nil, eq_self, Option.bind_some, Option.map_some, Bool.not_false, Bool.not_true, Bool.true_and, Bool.and_true, Bool.false_and, Bool.and_false, Bool.or_true, Bool.true_or, Bool.or_false, Bool.false_or, if_true, Bool.false_eq_true, if_false, Nat.sub_self, Nat.reduceAdd, Nat.reduceSub, Nat.reduceEqDiff, ite_true, ite_false, Nat.reduceLeDiff, e_rg1, rg, e2, a2, lo, lt]
  have s1 : evS T FU (.for_ (.tp [2, 3, 4]) (.seq (.call "_law_choices" [(.rg1 false (.int 7)), (.int 3)])) [.ife uC [u1, u2] []]) (uE sh [] none none none none none) S = some (.nx (uE sh (lT sh) y2 y3 y4 y5 none), S) := by
    rw [c_for, it_seq, ca, Option.bind_some]
    exact w
  have s2 : evS T FU (.ret (.var 1)) (uE sh (lT sh) y2 y3 y4 y5 none) S = some (.rt (.lst ((lT sh).map shV)), S) := rfl
  show (seqL (fun c env S => evS T FU c env S) P.c__law_triangles [some (shV sh), none, none, none, none, none, none] S).map endV = _
  unfold P.c__law_triangles
  rw [seqn s0, seqn s1, seqr s2]
  rfl
end Ws

/-! Ws110: the law's bad parts; when a shape is enough. -/
namespace Ws
open PySem PySem.Spec L2

/-! a list of shaped data is empty or not -/
def Shp (k : Nat) (x : PV) : Prop := ∃ d, x.pd = some d ∧ d.canLay0 = true ∧ d.depth ≤ k
theorem shps {k : Nat} : ∀ {L : List PV}, (∀ x ∈ L, Shp k x) → ∃ ds, PV.pds L = some ds ∧ ds.length = L.length ∧ PyData.canLayAll0 ds = true ∧ PyData.depthAll ds ≤ k
  | [], _ => ⟨[], by simp [PV.pds], rfl, by simp [PyData.canLayAll0], by simp [PyData.depthAll]⟩
  | x :: L, h => by
    obtain ⟨d, h1, h2, h3⟩ := h x List.mem_cons_self
    obtain ⟨ds, k1, k2, k3, k4⟩ := shps fun y hy => h y (List.mem_cons_of_mem _ hy)
    refine ⟨d :: ds, ?_, by rw [List.length_cons, List.length_cons, k2], ?_, ?_⟩
    · rw [PV.pds, h1, k1]; rfl
    · rw [PyData.canLayAll0, h2, k3]; rfl
    · simp only [PyData.depthAll]; omega
theorem shp_tup {k : Nat} {L : List PV} (h : ∀ x ∈ L, Shp k x) : Shp (k + 1) (.tup L) := by
  obtain ⟨ds, k1, _, k3, k4⟩ := shps h
  exact ⟨.tuple ds, by rw [PV.pd, k1]; rfl, by simp only [PyData.canLay0]; exact k3, by simp only [PyData.depth]; omega⟩
theorem shp_int {k : Nat} {i : Int} : Shp k (.int i) := ⟨.int i, by simp [PV.pd], by simp [PyData.canLay0], by simp [PyData.depth]⟩
theorem shp_str {k : Nat} {s : Str} (h : (PyData.str s).canLay0 = true) : Shp k (.str s) := ⟨.str s, by simp [PV.pd], h, by simp [PyData.depth]⟩
theorem shp_up {k : Nat} {x : PV} (j : Nat) (h : Shp k x) (e : k ≤ j) : Shp j x := by
  obtain ⟨d, h1, h2, h3⟩ := h
  exact ⟨d, h1, h2, Nat.le_trans h3 e⟩
theorem shp_pair {p : Int × Int} : Shp 1 (pairV p) := shp_tup (k := 0) fun x hx => by
  rcases List.mem_cons.mp hx with rfl | hx
  · exact shp_int
  · rw [List.mem_singleton.mp hx]; exact shp_int
theorem shp_sh {sh : Sh} : Shp 2 (shV sh) := shp_tup fun x hx => by
  obtain ⟨p, _, rfl⟩ := List.mem_map.mp hx
  exact shp_pair
theorem eq_nilL {L : List PV} (h : ∀ x ∈ L, Shp 20 x) : cmpV .eq (.lst L) (.lst []) = some L.isEmpty := by
  show eqD (.lst L) (.lst []) = _
  unfold eqD
  obtain ⟨ds, h1, h2, h3, h4⟩ := shps h
  have e1 : (PV.lst L).pd = some (.list ds) := by rw [PV.pd, h1]; rfl
  have e2 : (PV.lst []).pd = some (.list []) := by simp [PV.pd, PV.pds]
  rw [e1, e2]
  dsimp only
  have s1 : SeqAt.shaped (.list ds) = true := by
    simp [SeqAt.shaped, PyData.canLay0, h3, PyData.depth]
    try omega
  have s2 : SeqAt.shaped (.list []) = true := by simp [SeqAt.shaped, PyData.canLay0, PyData.canLayAll0, PyData.depth, PyData.depthAll]
  rw [s1, s2]
  cases L with
  | nil => cases ds with | nil => simp [PyData.eqv, PyData.eqvAll] | cons _ _ => simp at h2
  | cons x ns => cases ds with | nil => simp at h2 | cons _ _ => simp [PyData.eqv, PyData.eqvAll]
/-! the law's list of what is bad -/
def badA (t : Sh) : PV := .tup [.str "not", .str "apart", shV t]
def badT (t : Sh) : PV := .tup [.str "not", .str "triangle", shV t]
def badV (sh : Sh) : List PV := (l3 sh).map badA ++ (lT sh).map badT
theorem shp_badA {t : Sh} : Shp 20 (badA t) := shp_up 20 (shp_tup (k := 2) fun x hx => by
  rcases List.mem_cons.mp hx with rfl | hx
  · exact shp_str (by decide +kernel)
  rcases List.mem_cons.mp hx with rfl | hx
  · exact shp_str (by decide +kernel)
  · rw [List.mem_singleton.mp hx]; exact shp_sh) (by decide)
theorem shp_badT {t : Sh} : Shp 20 (badT t) := shp_up 20 (shp_tup (k := 2) fun x hx => by
  rcases List.mem_cons.mp hx with rfl | hx
  · exact shp_str (by decide +kernel)
  rcases List.mem_cons.mp hx with rfl | hx
  · exact shp_str (by decide +kernel)
  · rw [List.mem_singleton.mp hx]; exact shp_sh) (by decide)
theorem shp_bad {sh : Sh} : ∀ x ∈ badV sh, Shp 20 x := fun x hx => by
  rcases List.mem_append.mp hx with hx | hx
  · obtain ⟨t, _, rfl⟩ := List.mem_map.mp hx; exact shp_badA
  · obtain ⟨t, _, rfl⟩ := List.mem_map.mp hx; exact shp_badT
theorem bad_nil {sh : Sh} : cmpV .eq (.lst (badV sh)) (.lst []) = some (badV sh).isEmpty := eq_nilL shp_bad
theorem othL_len {sh : Sh} {p : Int × Int} (h : sh.length ≤ 10) : (othL sh p).length ≤ 10 := Nat.le_trans (List.length_filter_le _ _) h
theorem inT_len {O : Sh} {p q : Int × Int} (h : O.length ≤ 10) : (inT O p q).length ≤ 10 := by unfold inT; rw [List.length_map]; exact Nat.le_trans (List.length_filter_le _ _) h
theorem l3_len {sh : Sh} (h : sh.length ≤ 10) : (l3 sh).length ≤ 1000 := by
  have := len_fm (l := sh) (g := fun p => (othL sh p).flatMap fun q => inT (othL sh p) p q) (m := 100) fun p _ => by
    have := len_fm (l := othL sh p) (g := fun q => inT (othL sh p) p q) (m := 10) fun q _ => inT_len (othL_len h)
    have := othL_len (p := p) h
    omega
  unfold l3
  omega
theorem lT_len {sh : Sh} (h : sh.length ≤ 10) : (lT sh).length ≤ 350 := by
  have := len_fm (l := cho3) (g := triT sh) (m := 10) fun t _ => triT_len h
  rw [cho3_len] at this
  exact this
def LBadOk (φ : Fn) : Prop := ∀ sh S, sh.length ≤ 10 → φ [shV sh] S = some (.ret (.lst (badV sh)), S)
theorem lawBad_ok {T : Tbl} (H1 : ∃ φ, T.fn "_law_three_apart" = some (1, φ) ∧ L3Ok φ) (H2 : ∃ φ, T.fn "_law_triangles" = some (1, φ) ∧ LTOk φ) : LBadOk (evF T 3 P.c__law_bad) := by
  intro sh S h10
  obtain ⟨φ1, e1, h1⟩ := H1
  obtain ⟨φ2, e2, h2⟩ := H2
  have a1 := h1 sh S h10
  have a2 := h2 sh S h10
  have l1 := l3_len h10
  have l2 := lT_len h10
  have L3' : decide (3 ≤ LIM) = true := by decide
  have wo : (shV sh).isOwn = false := rfl
  have wt : (shV sh).thaw = shV sh := rfl
  have c1 : ∀ f, compL (stepV (fun e env S => evE T 59 e env S) (.tup [(.str "not"), (.str "apart"), (.var 2)]) (.nm 2) none [some (shV sh), f, none]) ((l3 sh).map shV) S = some ((l3 sh).map badA, S) := fun f => by
    refine compL_maps fun t ht => ?_
    have xo : (shV t).isOwn = false := rfl
    unfold badA
    generalize shV t = X at *
    generalize shV sh = V at *
    simp only [evF_end, end_nx, end_rt, FU, e_non, e_bl, e_int, e_str, e_ty, e_var, getV_some, e_glo, e_tup, e_lst, e_bin, e_neg, negV_int, e_not, e_and, e_or, andV_bl, orV_bl, and_pure, or_pure, e_cmp, e_chain, e_ite, e_idx, e_sli, e_gcd, e_sset, gcdV_int, e_call, callR_ret, e_bi, e_comp, l_nil, l_cons, s_nil, s_cons, then_nx, then_rt, turn_eq, ife_t, ife_f, ifeG_eq, c_asg, c_ret, c_retO, c_exp, c_ife, c_for, c_asgO, c_app, c_sset, g0, gS, st0, stS, thaw_tup, thaw_lst, thaw_own, thaw_int, thaw_bl, thaw_str, thaw_non, thaw_stm, own_tup, own_lst, own_own, own_int, own_bl, own_str, own_non, own_ty, own_stm, tru_bl, tru_int, seq_tup, seq_lst, seq_own, lst_lst, lst_own, add_int, sub_int, eq_int, ne_int, lt_int', le_int', gt_int', ge_int', ne_bl, eq_bl, idx_tup, idx_lst, idx_own, len_1, all_1, any_1, sum_1, tuple_1, list_1, sorted_1, int_1, abs_1, type_1, bind_nm, bind_tp, bind_ns, bind_tpl, min1_1, max1_1, mind_1, min2_1, max2_1, it_enum, enumB_lst, c_par, it_seq, it_rng1, it_rng2, rngA_int, rngB_int, it_zip, zip_tup, zip_lst, par_none, par_some, parB_int, sli_tup, sli_lst, step_none, step_some, wipe_nil, wipe_cons, List.map_cons, List.map_nil, List.length_cons, len_nil, List.all_cons, List.all_nil, List.replicate, List.cons_append, List.nil_append, List.append_nil, List.zip_cons_cons, List.zip_nil_right, List.foldl_cons, List.foldl_nil, eq_self, Option.bind_some, Option.map_some, Bool.not_false, Bool.not_true, Bool.true_and, Bool.and_true, Bool.false_and, Bool.and_false, Bool.or_true, Bool.true_or, Bool.or_false, Bool.false_or, if_true, Bool.false_eq_true, if_false, Nat.sub_self, Nat.reduceAdd, Nat.reduceSub, Nat.reduceEqDiff, ite_true, ite_false, Nat.reduceLeDiff, xo, L3']
  have c2 : ∀ f, compL (stepV (fun e env S => evE T 58 e env S) (.tup [(.str "not"), (.str "triangle"), (.var 2)]) (.nm 2) none [some (shV sh), f, none]) ((lT sh).map shV) S = some ((lT sh).map badT, S) := fun f => by
    refine compL_maps fun t ht => ?_
    have xo : (shV t).isOwn = false := rfl
    unfold badT
    generalize shV t = X at *
    generalize shV sh = V at *
    simp only [evF_end, end_nx, end_rt, FU, e_non, e_bl, e_int, e_str, e_ty, e_var, getV_some, e_glo, e_tup, e_lst, e_bin, e_neg, negV_int, e_not, e_and, e_or, andV_bl, orV_bl, and_pure, or_pure, e_cmp, e_chain, e_ite, e_idx, e_sli, e_gcd, e_sset, gcdV_int, e_call, callR_ret, e_bi, e_comp, l_nil, l_cons, s_nil, s_cons, then_nx, then_rt, turn_eq, ife_t, ife_f, ifeG_eq, c_asg, c_ret, c_retO, c_exp, c_ife, c_for, c_asgO, c_app, c_sset, g0, gS, st0, stS, thaw_tup, thaw_lst, thaw_own, thaw_int, thaw_bl, thaw_str, thaw_non, thaw_stm, own_tup, own_lst, own_own, own_int, own_bl, own_str, own_non, own_ty, own_stm, tru_bl, tru_int, seq_tup, seq_lst, seq_own, lst_lst, lst_own, add_int, sub_int, eq_int, ne_int, lt_int', le_int', gt_int', ge_int', ne_bl, eq_bl, idx_tup, idx_lst, idx_own, len_1, all_1, any_1, sum_1, tuple_1, list_1, sorted_1, int_1, abs_1, type_1, bind_nm, bind_tp, bind_ns, bind_tpl, min1_1, max1_1, mind_1, min2_1, max2_1, it_enum, enumB_lst, c_par, it_seq, it_rng1, it_rng2, rngA_int, rngB_int, it_zip, zip_tup, zip_lst, par_none, par_some, parB_int, sli_tup, sli_lst, step_none, step_some, wipe_nil, wipe_cons, List.map_cons, List.map_nil, List.length_cons, len_nil, List.all_cons, List.all_nil, List.replicate, List.cons_append, List.nil_append, List.append_nil, List.zip_cons_cons, List.zip_nil_right, List.foldl_cons, List.foldl_nil, eq_self, Option.bind_some, Option.map_some, Bool.not_false, Bool.not_true, Bool.true_and, Bool.and_true, Bool.false_and, Bool.and_false, Bool.or_true, Bool.true_or, Bool.or_false, Bool.false_or, if_true, Bool.false_eq_true, if_false, Nat.sub_self, Nat.reduceAdd, Nat.reduceSub, Nat.reduceEqDiff, ite_true, ite_false, Nat.reduceLeDiff, xo, L3']
  have ll1 : ((l3 sh).map shV).length ≤ LIM := by rw [List.length_map]; unfold LIM; omega
  have ll2 : ((lT sh).map shV).length ≤ LIM := by rw [List.length_map]; unfold LIM; omega
  have ad : binV .add (.lst ((l3 sh).map badA)) (.lst ((lT sh).map badT)) = some (.lst (badV sh)) := by
    rw [add_lst, if_pos (by rw [List.length_map, List.length_map]; unfold LIM; omega)]; rfl
  unfold P.c__law_bad
  generalize badV sh = B at *
  generalize (l3 sh).map badA = B1 at *
  generalize (lT sh).map badT = B2 at *
  generalize (l3 sh).map shV = M1 at *
  generalize (lT sh).map shV = M2 at *
  generalize shV sh = V at *
  simp only [evF_end, end_nx, end_rt, FU, e_non, e_bl, e_int, e_str, e_ty, e_var, getV_some, e_glo, e_tup, e_lst, e_bin, e_neg, negV_int, e_not, e_and, e_or, andV_bl, orV_bl, and_pure, or_pure, e_cmp, e_chain, e_ite, e_idx, e_sli, e_gcd, e_sset, gcdV_int, e_call, callR_ret, e_bi, e_comp, l_nil, l_cons, s_nil, s_cons, then_nx, then_rt, turn_eq, ife_t, ife_f, ifeG_eq, c_asg, c_ret, c_retO, c_exp, c_ife, c_for, c_asgO, c_app, c_sset, g0, gS, st0, stS, thaw_tup, thaw_lst, thaw_own, thaw_int, thaw_bl, thaw_str, thaw_non, thaw_stm, own_tup, own_lst, own_own, own_int, own_bl, own_str, own_non, own_ty, own_stm, tru_bl, tru_int, seq_tup, seq_lst, seq_own, lst_lst, lst_own, add_int, sub_int, eq_int, ne_int, lt_int', le_int', gt_int', ge_int', ne_bl, eq_bl, idx_tup, idx_lst, idx_own, len_1, all_1, any_1, sum_1, tuple_1, list_1, sorted_1, int_1, abs_1, type_1, bind_nm, bind_tp, bind_ns, bind_tpl, min1_1, max1_1, mind_1, min2_1, max2_1, it_enum, enumB_lst, c_par, it_seq, it_rng1, it_rng2, rngA_int, rngB_int, it_zip, zip_tup, zip_lst, par_none, par_some, parB_int, sli_tup, sli_lst, step_none, step_some, wipe_nil, wipe_cons, List.map_cons, List.map_nil, List.length_cons, len_nil, List.all_cons, List.all_nil, List.replicate, List.cons_append, List.nil_append, List.append_nil, List.zip_cons_cons, List.zip_nil_right, List.foldl_cons, List.foldl_nil, eq_self, Option.bind_some, Option.map_some, Bool.not_false, Bool.not_true, Bool.true_and, Bool.and_true, Bool.false_and, Bool.and_false, Bool.or_true, Bool.true_or, Bool.or_false, Bool.false_or, if_true, Bool.false_eq_true, if_false, Nat.sub_self, Nat.reduceAdd, Nat.reduceSub, Nat.reduceEqDiff, ite_true, ite_false, Nat.reduceLeDiff, e1, a1, e2, a2, wo, wt, ll1, ll2, c1, c2, ad]
/-! the same shapes are bad for both -/
def P7 : Sh := [((0 : Int), (1 : Int)), (0, 2), (0, 3), (0, 4), (0, 5), (0, 6), (1, 2), (1, 3), (1, 4), (1, 5), (1, 6), (2, 3), (2, 4), (2, 5), (2, 6), (3, 4), (3, 5), (3, 6), (4, 5), (4, 6), (5, 6)]
theorem in_P7 {p : Int × Int} (h : 0 ≤ p.1 ∧ p.1 < p.2 ∧ p.2 < 7) : p ∈ P7 := by
  obtain ⟨a, b⟩ := p
  obtain ⟨h1, h2, h3⟩ := h
  dsimp only at h1 h2 h3
  have : a = 0 ∨ a = 1 ∨ a = 2 ∨ a = 3 ∨ a = 4 ∨ a = 5 := by omega
  have : b = 1 ∨ b = 2 ∨ b = 3 ∨ b = 4 ∨ b = 5 ∨ b = 6 := by omega
  rcases ‹a = 0 ∨ _› with rfl | rfl | rfl | rfl | rfl | rfl <;> rcases ‹b = 1 ∨ _› with rfl | rfl | rfl | rfl | rfl | rfl <;> first | omega | (unfold P7; simp)
theorem T2all : (P7.all fun p => P7.all fun q => !ltB p q || P7.all fun r => !ltB q r || (decide ((cntP [p, q, r] : Int) = 6) == (apB p [q.1, q.2] && apB p [r.1, r.2] && apB q [r.1, r.2]))) = true := by decide +kernel
theorem T1all : (P7.all fun p => P7.all fun q => !ltB p q || P7.all fun r => !ltB q r || (decide ((cntP [p, q, r] : Int) = 3) == (decide (p.1 = q.1) && decide (p.2 = r.1) && decide (q.2 = r.2)))) = true := by decide +kernel
theorem T1ball : (cho3.all fun t => P7.all fun d => (decide ((cntP [(t.1, t.2.1), (t.1, t.2.2), (t.2.1, t.2.2), d] : Int) = 5) == apB d [t.1, t.2.1, t.2.2])) = true := by decide +kernel
theorem ltB_trans {p q r : Int × Int} (h1 : ltB p q = true) (h2 : ltB q r = true) : ltB p r = true := by
  rw [ltB_iff] at *
  unfold ltQ at *
  omega
section
variable {sh : Sh} (g : GoodSh sh)
theorem t2_of (g : GoodSh sh) {p q r : Int × Int} (hp : p ∈ sh) (hq : q ∈ sh) (hr : r ∈ sh) (h1 : ltQ p q) (h2 : ltQ q r) : decide ((cntP [p, q, r] : Int) = 6) = (apB p [q.1, q.2] && apB p [r.1, r.2] && apB q [r.1, r.2]) := by
  have a := List.all_eq_true.mp (List.all_eq_true.mp T2all p (in_P7 (g.inn p hp))) q (in_P7 (g.inn q hq))
  rw [ltB_iff.mpr h1, Bool.not_true, Bool.false_or] at a
  have b := List.all_eq_true.mp a r (in_P7 (g.inn r hr))
  rw [ltB_iff.mpr h2, Bool.not_true, Bool.false_or] at b
  exact eq_of_beq b
theorem t1_of (g : GoodSh sh) {p q r : Int × Int} (hp : p ∈ sh) (hq : q ∈ sh) (hr : r ∈ sh) (h1 : ltQ p q) (h2 : ltQ q r) : decide ((cntP [p, q, r] : Int) = 3) = (decide (p.1 = q.1) && decide (p.2 = r.1) && decide (q.2 = r.2)) := by
  have a := List.all_eq_true.mp (List.all_eq_true.mp T1all p (in_P7 (g.inn p hp))) q (in_P7 (g.inn q hq))
  rw [ltB_iff.mpr h1, Bool.not_true, Bool.false_or] at a
  have b := List.all_eq_true.mp a r (in_P7 (g.inn r hr))
  rw [ltB_iff.mpr h2, Bool.not_true, Bool.false_or] at b
  exact eq_of_beq b
theorem cho3_in {t : Lk} : t ∈ cho3 ↔ 0 ≤ t.1 ∧ t.1 < t.2.1 ∧ t.2.1 < t.2.2 ∧ t.2.2 < 7 := by
  have m7 : ∀ x : Int, x ∈ [(0 : Int), 1, 2, 3, 4, 5, 6] ↔ 0 ≤ x ∧ x < 7 := fun x => by
    simp only [List.mem_cons, List.not_mem_nil, or_false]; omega
  unfold cho3
  simp only [List.mem_flatMap, List.mem_map, List.mem_filter, m7, decide_eq_true_eq]
  constructor
  · rintro ⟨x, hx, y, ⟨hy, hxy⟩, z, ⟨hz, hyz⟩, rfl⟩
    dsimp only; omega
  · rintro ⟨h1, h2, h3, h4⟩
    exact ⟨t.1, by omega, t.2.1, ⟨by omega, h2⟩, t.2.2, ⟨by omega, h3⟩, rfl⟩
theorem t1b_of (g : GoodSh sh) {t : Lk} {d : Int × Int} (ht : t ∈ cho3) (hd : d ∈ sh) : decide ((cntP [(t.1, t.2.1), (t.1, t.2.2), (t.2.1, t.2.2), d] : Int) = 5) = apB d [t.1, t.2.1, t.2.2] :=
  eq_of_beq (List.all_eq_true.mp (List.all_eq_true.mp T1ball t ht) d (in_P7 (g.inn d hd)))
theorem emp_iff {α : Type} {l : List α} : l.isEmpty = true ↔ ∀ x, x ∉ l := by
  rw [List.isEmpty_iff]
  constructor
  · rintro rfl x hx; cases hx
  · intro h
    cases l with
    | nil => rfl
    | cons x l => exact (h x List.mem_cons_self).elim
theorem thr_l3 (g : GoodSh sh) : (thr sh).isEmpty = (l3 sh).isEmpty := by
  rw [Bool.eq_iff_iff, emp_iff, emp_iff]
  constructor
  · intro h t ht
    unfold l3 at ht
    obtain ⟨p, hp, ht⟩ := List.mem_flatMap.mp ht
    obtain ⟨q, hq, ht⟩ := List.mem_flatMap.mp ht
    obtain ⟨r, hr, rfl⟩ := List.mem_map.mp ht
    obtain ⟨hr, r1⟩ := List.mem_filter.mp hr
    obtain ⟨hq, q1⟩ := List.mem_filter.mp hq
    obtain ⟨hr, r2⟩ := List.mem_filter.mp hr
    rw [Bool.and_eq_true] at q1 r1 r2
    have lq := ltB_iff.mp q1.1
    have lr := ltB_iff.mp r1.1
    refine h [p, q, r] (List.mem_filter.mpr ⟨(c3_mem g.asc).mpr ⟨p, q, r, hp, hq, hr, lq, lr, rfl⟩, ?_⟩)
    rw [t2_of g hp hq hr lq lr, q1.2, r2.2, r1.2]; rfl
  · intro h t ht
    obtain ⟨hc, e⟩ := List.mem_filter.mp ht
    obtain ⟨p, q, r, hp, hq, hr, lq, lr, rfl⟩ := (c3_mem g.asc).mp hc
    rw [t2_of g hp hq hr lq lr, Bool.and_eq_true, Bool.and_eq_true] at e
    refine h [p, q, r] (List.mem_flatMap.mpr ⟨p, hp, List.mem_flatMap.mpr ⟨q, List.mem_filter.mpr ⟨hq, ?_⟩, List.mem_map.mpr ⟨r, List.mem_filter.mpr ⟨List.mem_filter.mpr ⟨hr, ?_⟩, ?_⟩, rfl⟩⟩⟩)
    · rw [ltB_iff.mpr lq, e.1.1]; rfl
    · rw [ltB_trans (ltB_iff.mpr lq) (ltB_iff.mpr lr), e.1.2]; rfl
    · rw [ltB_iff.mpr lr, e.2]; rfl
theorem tri_lT (g : GoodSh sh) : (triL sh).isEmpty = (lT sh).isEmpty := by
  rw [Bool.eq_iff_iff, emp_iff, emp_iff]
  constructor
  · intro h u hu
    obtain ⟨t, ht, hu⟩ := List.mem_flatMap.mp hu
    unfold triT at hu
    split at hu
    case isFalse => cases hu
    rename_i hb
    obtain ⟨d, hd, rfl⟩ := List.mem_map.mp hu
    obtain ⟨hd, d1⟩ := List.mem_filter.mp hd
    unfold isTri at hb
    rw [Bool.and_eq_true, Bool.and_eq_true, decide_eq_true_eq, decide_eq_true_eq, decide_eq_true_eq] at hb
    obtain ⟨b1, b2, b3⟩ := hb
    have hi := cho3_in.mp ht
    have l1 : ltQ (t.1, t.2.1) (t.1, t.2.2) := .inr ⟨rfl, by show t.2.1 < t.2.2; omega⟩
    have l2 : ltQ (t.1, t.2.2) (t.2.1, t.2.2) := .inl (by show t.1 < t.2.1; omega)
    have w := t1_of g b1 b2 b3 l1 l2
    have w2 := t1b_of g ht hd
    refine h [(t.1, t.2.1), (t.1, t.2.2), (t.2.1, t.2.2), d] (List.mem_flatMap.mpr ⟨[(t.1, t.2.1), (t.1, t.2.2), (t.2.1, t.2.2)], (c3_mem g.asc).mpr ⟨_, _, _, b1, b2, b3, l1, l2, rfl⟩, List.mem_map.mpr ⟨d, List.mem_filter.mpr ⟨hd, ?_⟩, rfl⟩⟩)
    show (decide ((cntP [(t.1, t.2.1), (t.1, t.2.2), (t.2.1, t.2.2)] : Int) = 3) && decide ((cntP [(t.1, t.2.1), (t.1, t.2.2), (t.2.1, t.2.2), d] : Int) = 5)) = true
    rw [w, w2, d1]
    simp
  · intro h u hu
    obtain ⟨t, ht, hu⟩ := List.mem_flatMap.mp hu
    obtain ⟨d, hd0, rfl⟩ := List.mem_map.mp hu
    obtain ⟨hd, d1⟩ := List.mem_filter.mp hd0
    obtain ⟨p, q, r, hp, hq, hr, lq, lr, rfl⟩ := (c3_mem g.asc).mp ht
    have d1' : (decide ((cntP [p, q, r] : Int) = 3) && decide ((cntP [p, q, r, d] : Int) = 5)) = true := d1
    rw [t1_of g hp hq hr lq lr, Bool.and_eq_true] at d1'
    obtain ⟨e1, e2⟩ := d1'
    rw [Bool.and_eq_true, Bool.and_eq_true, decide_eq_true_eq, decide_eq_true_eq, decide_eq_true_eq] at e1
    obtain ⟨⟨f1, f2⟩, f3⟩ := e1
    have ip := g.inn p hp
    have iq := g.inn q hq
    have ir := g.inn r hr
    obtain ⟨p1, p2⟩ := p
    obtain ⟨q1, q2⟩ := q
    obtain ⟨r1, r2⟩ := r
    dsimp only at f1 f2 f3 ip iq ir
    subst f1 f2 f3
    have hc : ((p1, p2, q2) : Lk) ∈ cho3 := cho3_in.mpr (by dsimp only; omega)
    have w2 := t1b_of g hc hd
    dsimp only at w2
    rw [w2] at e2
    refine h [(p1, p2), (p1, q2), (p2, q2), d] (List.mem_flatMap.mpr ⟨(p1, p2, q2), hc, ?_⟩)
    unfold triT
    rw [if_pos (by
      unfold isTri
      dsimp only
      rw [decide_eq_true hp, decide_eq_true hq, decide_eq_true hr]; rfl)]
    exact List.mem_map.mpr ⟨d, List.mem_filter.mpr ⟨hd, e2⟩, rfl⟩
theorem en_bad (g : GoodSh sh) : (badV sh).isEmpty = enB sh := by
  unfold enB
  rw [thr_l3 g, tri_lT g]
  unfold badV
  cases l3 sh <;> cases lT sh <;> rfl
end
end Ws

/-! Ws111: shapes that the law draws. -/
namespace Ws
open PySem PySem.Spec L2

def Shuf2Ok (φ : Fn) : Prop := ∀ S n, SOk S → 2 ≤ n → n ≤ 7 → ∃ (o : List Int) (S' : Strm), φ [.stm, .int n] S = some (.ret (.lst (o.map .int)), S') ∧ o.Perm (rngI n) ∧ SOk S'
theorem lawShuf2_ok {T : Tbl} (H1 : ∃ φ, T.fn "_law_next" = some (2, φ) ∧ NextOk φ) : Shuf2Ok (evF T 4 P.c__law_shuffled_v2) := by
  intro S n hS h1 h2
  obtain ⟨φ, e, h⟩ := H1
  obtain ⟨ys, rest, S2, k1, k2, k3, k4⟩ := pop_shuf (T := T) (n := n) (a2 := some (.own (rangeV 0 n))) e h (rangeV 0 n) (rngI n) S hS (by rw [rangeV_len, rngI_len]; omega) (by rw [rngI_len]; omega) (fun x hx => by
    obtain ⟨i, hi⟩ := List.getElem?_of_mem hx
    exact ⟨_, (rangeV_get hi).1⟩)
  rw [rangeV_len] at k3
  have iN : inR n = true := by unfold inR; simp; omega
  have i0 : inR 0 = true := by decide
  have lR : (rangeV 0 n).length ≤ LIM := by rw [rangeV_len]; unfold LIM; omega
  have lN : (n - 0).toNat ≤ LIM := by unfold LIM; omega
  have re : rest = [] := by
    have := k2.length_eq
    rw [List.length_append, rngI_len, k3] at this
    exact List.length_eq_zero_iff.mp (by omega)
  subst re
  rw [List.append_nil] at k2
  refine ⟨ys, S2, ?_, k2, k4⟩
  rw [show (rngI n).map PV.int = rangeV 0 n from rangeV_ints.symm] at k1
  rw [evF_end]
  show Option.map endV (seqL (fun c env S => evS T FU c env S) P.c__law_shuffled_v2 [some .stm, some (.int n), none, none] S) = _
  unfold P.c__law_shuffled_v2
  refine (congrArg (Option.map endV) ?_).trans (show Option.map endV (some (Fl.rt (.lst (ys.map .int)), S2)) = _ from rfl)
  have rg : rgV1 false (.int n, S) = some (.lst (rangeV 0 n), S) := by
    show (rgS false 0 n).map _ = _
    unfold rgS
    rw [i0, iN, decide_eq_true lN]; rfl
  refine (seq_nxt (ev := fun c env S => evS T FU c env S) (e' := [some .stm, some (.int n), some (.own (rangeV 0 n)), none]) (S' := S) (by
    simp only [evF_end, end_nx, end_rt, FU, e_non, e_bl, e_int, e_str, e_ty, e_var, getV_some, e_glo, e_tup, e_lst, e_bin, e_neg, negV_int, e_not, e_and, e_or, andV_bl, orV_bl, and_pure, or_pure, e_cmp, e_chain, e_ite, e_idx, e_sli, e_gcd, e_sset, gcdV_int, e_call, callR_ret, e_bi, e_comp, l_nil, l_cons, s_nil, s_cons, then_nx, then_rt, turn_eq, ife_t, ife_f, ifeG_eq, c_asg, c_ret, c_retO, c_exp, c_ife, c_for, c_asgO, c_app, c_sset, g0, gS, st0, stS, thaw_tup, thaw_lst, thaw_own, thaw_int, thaw_bl, thaw_str, thaw_non, thaw_stm, own_tup, own_lst, own_own, own_int, own_bl, own_str, own_non, own_ty, own_stm, tru_bl, tru_int, seq_tup, seq_lst, seq_own, lst_lst, lst_own, add_int, sub_int, eq_int, ne_int, lt_int', le_int', gt_int', ge_int', ne_bl, eq_bl, idx_tup, idx_lst, idx_own, len_1, all_1, any_1, sum_1, tuple_1, list_1, sorted_1, int_1, abs_1, type_1, bind_nm, bind_tp, bind_ns, bind_tpl, min1_1, max1_1, mind_1, min2_1, max2_1, it_enum, enumB_lst, c_par, it_seq, it_rng1, it_rng2, rngA_int, rngB_int, it_zip, zip_tup, zip_lst, par_none, par_some, parB_int, sli_tup, sli_lst, step_none, step_some, wipe_nil, wipe_cons, List.map_cons, List.map_nil, List.length_cons, len_nil, List.all_cons, List.all_nil, List.replicate, List.cons_append, List.nil_append, List.append_nil, List.zip_cons_cons, List.zip_nil_right, List.foldl_cons, List.foldl_nil, eq_self, Option.bind_some, Option.map_some, Bool.not_false, Bool.not_true, Bool.true_and, Bool.and_true, Bool.false_and, Bool.and_false, Bool.or_true, Bool.true_or, Bool.or_false, Bool.false_or, if_true, Bool.false_eq_true, if_false, Nat.sub_self, Nat.reduceAdd, Nat.reduceSub, Nat.reduceEqDiff, ite_true, ite_false, Nat.reduceLeDiff, show isFresh (.rg1 false (.var 1)) = true from rfl, asgO_ok (show (2 : Nat) < [some PV.stm, some (PV.int n), none, none].length from by show 2 < 4; decide) (isO hS), e_rg1, rg])).trans ?_
  refine seq_ret (ev := fun c env S => evS T FU c env S) ?_
  have wv : wrapV [] (.lst (ys.map .int)) = some (.lst (ys.map .int)) := by rw [wrapV]
  rw [c_pop]
  simp only [evF_end, end_nx, end_rt, FU, e_non, e_bl, e_int, e_str, e_ty, e_var, getV_some, e_glo, e_tup, e_lst, e_bin, e_neg, negV_int, e_not, e_and, e_or, andV_bl, orV_bl, and_pure, or_pure, e_cmp, e_chain, e_ite, e_idx, e_sli, e_gcd, e_sset, gcdV_int, e_call, callR_ret, e_bi, e_comp, l_nil, l_cons, s_nil, s_cons, then_nx, then_rt, turn_eq, ife_t, ife_f, ifeG_eq, c_asg, c_ret, c_retO, c_exp, c_ife, c_for, c_asgO, c_app, c_sset, g0, gS, st0, stS, thaw_tup, thaw_lst, thaw_own, thaw_int, thaw_bl, thaw_str, thaw_non, thaw_stm, own_tup, own_lst, own_own, own_int, own_bl, own_str, own_non, own_ty, own_stm, tru_bl, tru_int, seq_tup, seq_lst, seq_own, lst_lst, lst_own, add_int, sub_int, eq_int, ne_int, lt_int', le_int', gt_int', ge_int', ne_bl, eq_bl, idx_tup, idx_lst, idx_own, len_1, all_1, any_1, sum_1, tuple_1, list_1, sorted_1, int_1, abs_1, type_1, bind_nm, bind_tp, bind_ns, bind_tpl, min1_1, max1_1, mind_1, min2_1, max2_1, it_enum, enumB_lst, c_par, it_seq, it_rng1, it_rng2, rngA_int, rngB_int, it_zip, zip_tup, zip_lst, par_none, par_some, parB_int, sli_tup, sli_lst, step_none, step_some, wipe_nil, wipe_cons, List.map_cons, List.map_nil, List.length_cons, len_nil, List.all_cons, List.all_nil, List.replicate, List.cons_append, List.nil_append, List.append_nil, List.zip_cons_cons, List.zip_nil_right, List.foldl_cons, List.foldl_nil, eq_self, Option.bind_some, Option.map_some, Bool.not_false, Bool.not_true, Bool.true_and, Bool.and_true, Bool.false_and, Bool.and_false, Bool.or_true, Bool.true_or, Bool.or_false, Bool.false_or, if_true, Bool.false_eq_true, if_false, Nat.sub_self, Nat.reduceAdd, Nat.reduceSub, Nat.reduceEqDiff, ite_true, ite_false, Nat.reduceLeDiff, iN]
  unfold popV
  rw [show ownAt [some PV.stm, some (.int n), some (.own (rangeV 0 n)), none] 2 = some (rangeV 0 n) from rfl, Option.bind_some]
  dsimp only
  rw [if_pos (decide_eq_true lR), k1, Option.bind_some]
  dsimp only
  rw [wv, Option.bind_some]
  rfl
theorem mnP (a b : Int) : (if b < a then b else a) = min a b := by split <;> omega
theorem mxP (a b : Int) : (if b > a then b else a) = max a b := by split <;> omega
def mkP (a b : Int) : Int × Int := (min a b, max a b)
def LPairOk (φ : Fn) : Prop := ∀ a b S, φ [.int a, .int b] S = some (.ret (pairV (mkP a b)), S)
theorem lawPair_ok {T : Tbl} : LPairOk (evF T 2 P.c__law_pair) := by
  intro a b S
  have e1 := mnP a b
  have e2 := mxP a b
  have d2 := L2d'
  unfold P.c__law_pair mkP pairV
  simp only [evF_end, end_nx, end_rt, FU, e_non, e_bl, e_int, e_str, e_ty, e_var, getV_some, e_glo, e_tup, e_lst, e_bin, e_neg, negV_int, e_not, e_and, e_or, andV_bl, orV_bl, and_pure, or_pure, e_cmp, e_chain, e_ite, e_idx, e_sli, e_gcd, e_sset, gcdV_int, e_call, callR_ret, e_bi, e_comp, l_nil, l_cons, s_nil, s_cons, then_nx, then_rt, turn_eq, ife_t, ife_f, ifeG_eq, c_asg, c_ret, c_retO, c_exp, c_ife, c_for, c_asgO, c_app, c_sset, g0, gS, st0, stS, thaw_tup, thaw_lst, thaw_own, thaw_int, thaw_bl, thaw_str, thaw_non, thaw_stm, own_tup, own_lst, own_own, own_int, own_bl, own_str, own_non, own_ty, own_stm, tru_bl, tru_int, seq_tup, seq_lst, seq_own, lst_lst, lst_own, add_int, sub_int, eq_int, ne_int, lt_int', le_int', gt_int', ge_int', ne_bl, eq_bl, idx_tup, idx_lst, idx_own, len_1, all_1, any_1, sum_1, tuple_1, list_1, sorted_1, int_1, abs_1, type_1, bind_nm, bind_tp, bind_ns, bind_tpl, min1_1, max1_1, mind_1, min2_1, max2_1, it_enum, enumB_lst, c_par, it_seq, it_rng1, it_rng2, rngA_int, rngB_int, it_zip, zip_tup, zip_lst, par_none, par_some, parB_int, sli_tup, sli_lst, step_none, step_some, wipe_nil, wipe_cons, List.map_cons, List.map_nil, List.length_cons, len_nil, List.all_cons, List.all_nil, List.replicate, List.cons_append, List.nil_append, List.append_nil, List.zip_cons_cons, List.zip_nil_right, List.foldl_cons, List.foldl_nil, eq_self, Option.bind_some, Option.map_some, Bool.not_false, Bool.not_true, Bool.true_and, Bool.and_true, Bool.false_and, Bool.and_false, Bool.or_true, Bool.true_or, Bool.or_false, Bool.false_or, if_true, Bool.false_eq_true, if_false, Nat.sub_self, Nat.reduceAdd, Nat.reduceSub, Nat.reduceEqDiff, ite_true, ite_false, Nat.reduceLeDiff, e1, e2, d2]
theorem allP2 {T : Tbl} {S : Strm} : evF T 4 P.c__law_all_pairs [.int 2] S = some (.ret (.lst ((pairsL 2).map pairV)), S) := by kernel_rfl
theorem allP3 {T : Tbl} {S : Strm} : evF T 4 P.c__law_all_pairs [.int 3] S = some (.ret (.lst ((pairsL 3).map pairV)), S) := by kernel_rfl
theorem allP4 {T : Tbl} {S : Strm} : evF T 4 P.c__law_all_pairs [.int 4] S = some (.ret (.lst ((pairsL 4).map pairV)), S) := by kernel_rfl
theorem allP5 {T : Tbl} {S : Strm} : evF T 4 P.c__law_all_pairs [.int 5] S = some (.ret (.lst ((pairsL 5).map pairV)), S) := by kernel_rfl
theorem allP6 {T : Tbl} {S : Strm} : evF T 4 P.c__law_all_pairs [.int 6] S = some (.ret (.lst ((pairsL 6).map pairV)), S) := by kernel_rfl
theorem allP7 {T : Tbl} {S : Strm} : evF T 4 P.c__law_all_pairs [.int 7] S = some (.ret (.lst ((pairsL 7).map pairV)), S) := by kernel_rfl
def AllPOk (φ : Fn) : Prop := ∀ n S, 2 ≤ n → n ≤ 7 → φ [.int n] S = some (.ret (.lst ((pairsL n).map pairV)), S)
theorem allP_ok {T : Tbl} : AllPOk (evF T 4 P.c__law_all_pairs) := by
  intro n S h2 h7
  rcases sev_of h2 h7 with rfl | rfl | rfl | rfl | rfl | rfl
  · exact allP2
  · exact allP3
  · exact allP4
  · exact allP5
  · exact allP6
  · exact allP7
/-! rings -/
abbrev rgC : CE := .call "_law_pair" [(.idx (.var 0) (.bin .sub (.var 1) (.int 1))), (.idx (.var 0) (.var 1))]
theorem ring_step {T : Tbl} {S : Strm} {φ : Fn} (e : T.fn "_law_pair" = some (2, φ)) (h : LPairOk φ) {L : List PV} {k u v : Int} (i1 : atI L (k - 1) = some (.int u)) (i2 : atI L k = some (.int v)) :
    stepV (fun e env S => evE T 59 e env S) rgC (.nm 1) none [some (.lst L), none] (.int k) S = some (some (pairV (mkP u v)), S) := by
  have a := h u v S
  have po : (pairV (mkP u v)).isOwn = false := rfl
  generalize pairV (mkP u v) = V at *
  simp only [evF_end, end_nx, end_rt, FU, e_non, e_bl, e_int, e_str, e_ty, e_var, getV_some, e_glo, e_tup, e_lst, e_bin, e_neg, negV_int, e_not, e_and, e_or, andV_bl, orV_bl, and_pure, or_pure, e_cmp, e_chain, e_ite, e_idx, e_sli, e_gcd, e_sset, gcdV_int, e_call, callR_ret, e_bi, e_comp, l_nil, l_cons, s_nil, s_cons, then_nx, then_rt, turn_eq, ife_t, ife_f, ifeG_eq, c_asg, c_ret, c_retO, c_exp, c_ife, c_for, c_asgO, c_app, c_sset, g0, gS, st0, stS, thaw_tup, thaw_lst, thaw_own, thaw_int, thaw_bl, thaw_str, thaw_non, thaw_stm, own_tup, own_lst, own_own, own_int, own_bl, own_str, own_non, own_ty, own_stm, tru_bl, tru_int, seq_tup, seq_lst, seq_own, lst_lst, lst_own, add_int, sub_int, eq_int, ne_int, lt_int', le_int', gt_int', ge_int', ne_bl, eq_bl, idx_tup, idx_lst, idx_own, len_1, all_1, any_1, sum_1, tuple_1, list_1, sorted_1, int_1, abs_1, type_1, bind_nm, bind_tp, bind_ns, bind_tpl, min1_1, max1_1, mind_1, min2_1, max2_1, it_enum, enumB_lst, c_par, it_seq, it_rng1, it_rng2, rngA_int, rngB_int, it_zip, zip_tup, zip_lst, par_none, par_some, parB_int, sli_tup, sli_lst, step_none, step_some, wipe_nil, wipe_cons, List.map_cons, List.map_nil, List.length_cons, len_nil, List.all_cons, List.all_nil, List.replicate, List.cons_append, List.nil_append, List.append_nil, List.zip_cons_cons, List.zip_nil_right, List.foldl_cons, List.foldl_nil, eq_self, Option.bind_some, Option.map_some, Bool.not_false, Bool.not_true, Bool.true_and, Bool.and_true, Bool.false_and, Bool.and_false, Bool.or_true, Bool.true_or, Bool.or_false, Bool.false_or, if_true, Bool.false_eq_true, if_false, Nat.sub_self, Nat.reduceAdd, Nat.reduceSub, Nat.reduceEqDiff, ite_true, ite_false, Nat.reduceLeDiff, e, i1, i2, a, po]
theorem ring_all {T : Tbl} {S : Strm} {φ : Fn} (e : T.fn "_law_pair" = some (2, φ)) (h : LPairOk φ) {L : List PV} (R : List Lk) (hL : L.length ≤ 100) (er : rangeV 0 L.length = R.map fun r => .int r.1) (hR : ∀ r ∈ R, atI L (r.1 - 1) = some (.int r.2.1) ∧ atI L r.1 = some (.int r.2.2)) :
    evF T 2 P.c__law_ring [.lst L] S = some (.ret (.lst ((R.map fun r => mkP r.2.1 r.2.2).map pairV)), S) := by
  have c : compL (stepV (fun e env S => evE T 59 e env S) rgC (.nm 1) none [some (.lst L), none]) (rangeV 0 L.length) S = some ((R.map fun r => mkP r.2.1 r.2.2).map pairV, S) := by
    rw [er, List.map_map]
    refine compL_maps fun r hr => ?_
    obtain ⟨i1, i2⟩ := hR r hr
    exact ring_step e h i1 i2
  have it : itV true (fun e S => evE T 59 e [some (.lst L), none] S) (.rng1 (.bi .len [(.var 0)])) S = some (rangeV 0 L.length, S) := by
    have e1 : evE T 59 (.bi .len [(.var 0)]) [some (.lst L), none] S = some (.int L.length, S) := rfl
    rw [it_rng1, e1, Option.bind_some, rngA_int, if_pos (by unfold inR; simp; omega)]
  have lr : (rangeV 0 L.length).length ≤ LIM := by rw [rangeV_len]; unfold LIM; omega
  have e0 : evE T FU (.comp rgC (.nm 1) (.rng1 (.bi .len [(.var 0)])) none [("at", 1)]) [some (.lst L), none] S = some (.lst ((R.map fun r => mkP r.2.1 r.2.2).map pairV), S) := by
    rw [FU, e_comp, it, Option.bind_some]
    dsimp only
    rw [if_pos lr]
    exact congrArg (fun z => Option.map (fun r : List PV × Strm => (PV.lst r.1, r.2)) z) c
  show (seqL (fun c env S => evS T FU c env S) [_] [some (.lst L), none] S).map endV = _
  rw [s_cons, c_ret, e0]
  rfl
def ring3 (a b c : Int) : Sh := [mkP c a, mkP a b, mkP b c]
def ring5 (a b c d e : Int) : Sh := [mkP e a, mkP a b, mkP b c, mkP c d, mkP d e]
def RingOk (φ : Fn) : Prop := (∀ a b c S, φ [.lst [.int a, .int b, .int c]] S = some (.ret (.lst ((ring3 a b c).map pairV)), S)) ∧ ∀ a b c d e S, φ [.lst [.int a, .int b, .int c, .int d, .int e]] S = some (.ret (.lst ((ring5 a b c d e).map pairV)), S)
theorem lawRing_ok {T : Tbl} (H : ∃ φ, T.fn "_law_pair" = some (2, φ) ∧ LPairOk φ) : RingOk (evF T 2 P.c__law_ring) := by
  obtain ⟨φ, e, h⟩ := H
  refine ⟨fun a b c S => ?_, fun a b c d f S => ?_⟩
  · refine ring_all e h [(0, c, a), (1, a, b), (2, b, c)] (by simp) rfl fun r hr => ?_
    simp only [List.mem_cons, List.not_mem_nil, or_false] at hr
    rcases hr with rfl | rfl | rfl <;> exact ⟨rfl, rfl⟩
  · refine ring_all e h [(0, f, a), (1, a, b), (2, b, c), (3, c, d), (4, d, f)] (by simp) rfl fun r hr => ?_
    simp only [List.mem_cons, List.not_mem_nil, or_false] at hr
    rcases hr with rfl | rfl | rfl | rfl | rfl <;> exact ⟨rfl, rfl⟩
/-! the drawn shape -/
abbrev PIn (p : Int × Int) : Prop := 0 ≤ p.1 ∧ p.1 < p.2 ∧ p.2 < 7
theorem mkP_in {a b : Int} (ha : 0 ≤ a ∧ a < 7) (hb : 0 ≤ b ∧ b < 7) (h : a ≠ b) : PIn (mkP a b) := by unfold PIn mkP; dsimp only; omega
theorem mkP_ne {a b c d : Int} (h : ¬((a = c ∧ b = d) ∨ (a = d ∧ b = c))) : mkP a b ≠ mkP c d := fun e => by
  unfold mkP at e
  injection e with e1 e2
  omega
theorem good_nd {F : Sh} (nd : F.Nodup) (hin : ∀ p ∈ F, PIn p) (h : F.length ≤ 10) : GoodSh (isort le2 F) := by
  refine ⟨by rw [isort_length]; exact h, fun q hq => hin q (isort_mem.mp hq), ?_⟩
  have nd2 : (isort le2 F).Nodup := (isort_perm le2 _).nodup_iff.mpr nd
  have pw := isort_pw le2_total F
  have := List.pairwise_and_iff.mpr ⟨pw, nd2⟩
  refine this.imp fun {a b} q => ?_
  obtain ⟨q1, q2⟩ := q
  unfold le2 at q1
  have q1 := of_decide_eq_true q1
  by_cases e : a.1 = b.1 ∧ a.2 = b.2
  · exact absurd (Prod.ext e.1 e.2) q2
  · unfold ltQ; omega
theorem nd_sub_len : ∀ {F P : Sh}, F.Nodup → (∀ p ∈ F, p ∈ P) → F.length ≤ P.length
  | [], _, _, _ => Nat.zero_le _
  | x :: F, P, nd, h => by
    rw [List.nodup_cons] at nd
    have hx := h x List.mem_cons_self
    have := nd_sub_len (P := P.erase x) nd.2 fun p hp => (List.mem_erase_of_ne (fun e : p = x => nd.1 (by rw [← e]; exact hp))).mpr (h p (List.mem_cons_of_mem _ hp))
    rw [List.length_erase_of_mem hx] at this
    have := List.length_pos_of_mem hx
    rw [List.length_cons]; omega
structure Gd (P B : Sh) : Prop where
  p1 : 1 ≤ P.length
  p2 : P.length ≤ 100
  pin : ∀ p ∈ P, PIn p
  bin : ∀ p ∈ B, PIn p
  nd : B.Nodup
  b : B.length ≤ 5 ∨ ((∀ p ∈ B, p ∈ P) ∧ P.length ≤ 10)
abbrev sE (o : PV) (P B : Sh) (k : Int) : Env := [some .stm, some o, some (.lst (P.map pairV)), some (.lst (B.map pairV)), some (.int k), none, none, none, none]
abbrev sF (o : PV) (P B F : Sh) (k : Int) (x6 x7 : Option PV) : Env := [some .stm, some o, some (.lst (P.map pairV)), some (.lst (B.map pairV)), some (.int k), some (.own (F.map pairV)), x6, x7, none]
abbrev lB : List CS := [.asg (.nm 7) (.idx (.var 2) (.call "_law_next" [(.var 0), (.bi .len [(.var 2)])])), .ife (.cmp .nmem (.var 7) (.var 5)) [.app 5 (.var 7)] []]
section
variable {T : Tbl} {S : Strm} {o : PV} {P B F : Sh} {k i : Int} {x6 x7 : Option PV}
theorem nmem_own {q : Int × Int} {A : Sh} : cmpV .nmem (pairV q) (.own (A.map pairV)) = some (!decide (q ∈ A)) := nmem_sh
theorem sh_turn {φ : Fn} (e : T.fn "_law_next" = some (2, φ)) (h : NextOk φ) (hS : SOk S) (p1 : 1 ≤ P.length) (p2 : P.length ≤ 100) (fl : F.length ≤ 100) :
    ∃ (p : Int × Int) (S' : Strm), p ∈ P ∧ SOk S' ∧ bodyF T 59 (.nm 6) lB (.int i) (sF o P B F k x6 x7) S = some (.nx (sF o P B (if p ∈ F then F else F ++ [p]) k (some (.int i)) (some (pairV p))), S') := by
  obtain ⟨d, S1, n1, n2, n3, n4⟩ := h S P.length hS (by omega) (by omega)
  obtain ⟨p, g1, g2⟩ := at_mapF (f := pairV) n2 n3
  refine ⟨p, S1, List.mem_of_getElem? g1, n4, ?_⟩
  rw [body_eq]
  show (some (sF o P B F k (some (.int i)) x7)).bind _ = _
  rw [Option.bind_some]
  have lL : (((P.map pairV).length : Nat) : Int) = (P.length : Int) := by rw [List.length_map]
  have s1 : evS T 59 (.asg (.nm 7) (.idx (.var 2) (.call "_law_next" [(.var 0), (.bi .len [(.var 2)])]))) (sF o P B F k (some (.int i)) x7) S = some (.nx (sF o P B F k (some (.int i)) (some (pairV p))), S1) := by
    have po : (pairV p).isOwn = false := rfl
    unfold sF at *
    generalize (P.length : Int) = m at *
    generalize pairV p = pd at *
    generalize P.map pairV = Pm at *
    generalize B.map pairV = Bm at *
    generalize F.map pairV = Fm at *
    simp only [evF_end, end_nx, end_rt, FU, e_non, e_bl, e_int, e_str, e_ty, e_var, getV_some, e_glo, e_tup, e_lst, e_bin, e_neg, negV_int, e_not, e_and, e_or, andV_bl, orV_bl, and_pure, or_pure, e_cmp, e_chain, e_ite, e_idx, e_sli, e_gcd, e_sset, gcdV_int, e_call, callR_ret, e_bi, e_comp, l_nil, l_cons, s_nil, s_cons, then_nx, then_rt, turn_eq, ife_t, ife_f, ifeG_eq, c_asg, c_ret, c_retO, c_exp, c_ife, c_for, c_asgO, c_app, c_sset, g0, gS, st0, stS, thaw_tup, thaw_lst, thaw_own, thaw_int, thaw_bl, thaw_str, thaw_non, thaw_stm, own_tup, own_lst, own_own, own_int, own_bl, own_str, own_non, own_ty, own_stm, tru_bl, tru_int, seq_tup, seq_lst, seq_own, lst_lst, lst_own, add_int, sub_int, eq_int, ne_int, lt_int', le_int', gt_int', ge_int', ne_bl, eq_bl, idx_tup, idx_lst, idx_own, len_1, all_1, any_1, sum_1, tuple_1, list_1, sorted_1, int_1, abs_1, type_1, bind_nm, bind_tp, bind_ns, bind_tpl, min1_1, max1_1, mind_1, min2_1, max2_1, it_enum, enumB_lst, c_par, it_seq, it_rng1, it_rng2, rngA_int, rngB_int, it_zip, zip_tup, zip_lst, par_none, par_some, parB_int, sli_tup, sli_lst, step_none, step_some, wipe_nil, wipe_cons, List.map_cons, List.map_nil, List.length_cons, len_nil, List.all_cons, List.all_nil, List.replicate, List.cons_append, List.nil_append, List.append_nil, List.zip_cons_cons, List.zip_nil_right, List.foldl_cons, List.foldl_nil, eq_self, Option.bind_some, Option.map_some, Bool.not_false, Bool.not_true, Bool.true_and, Bool.and_true, Bool.false_and, Bool.and_false, Bool.or_true, Bool.true_or, Bool.or_false, Bool.false_or, if_true, Bool.false_eq_true, if_false, Nat.sub_self, Nat.reduceAdd, Nat.reduceSub, Nat.reduceEqDiff, ite_true, ite_false, Nat.reduceLeDiff, e, lL, n1, g2, po, callR_flat (x := .int d) rfl (isO hS)]
  have nm := nmem_own (q := p) (A := F)
  have cnd : evE T FU (.cmp .nmem (.var 7) (.var 5)) (sF o P B F k (some (.int i)) (some (pairV p))) S1 = some (.bl (!decide (p ∈ F)), S1) := by
    unfold sF at *
    generalize pairV p = pd at *
    generalize P.map pairV = Pm at *
    generalize B.map pairV = Bm at *
    generalize F.map pairV = Fm at *
    simp only [evF_end, end_nx, end_rt, FU, e_non, e_bl, e_int, e_str, e_ty, e_var, getV_some, e_glo, e_tup, e_lst, e_bin, e_neg, negV_int, e_not, e_and, e_or, andV_bl, orV_bl, and_pure, or_pure, e_cmp, e_chain, e_ite, e_idx, e_sli, e_gcd, e_sset, gcdV_int, e_call, callR_ret, e_bi, e_comp, l_nil, l_cons, s_nil, s_cons, then_nx, then_rt, turn_eq, ife_t, ife_f, ifeG_eq, c_asg, c_ret, c_retO, c_exp, c_ife, c_for, c_asgO, c_app, c_sset, g0, gS, st0, stS, thaw_tup, thaw_lst, thaw_own, thaw_int, thaw_bl, thaw_str, thaw_non, thaw_stm, own_tup, own_lst, own_own, own_int, own_bl, own_str, own_non, own_ty, own_stm, tru_bl, tru_int, seq_tup, seq_lst, seq_own, lst_lst, lst_own, add_int, sub_int, eq_int, ne_int, lt_int', le_int', gt_int', ge_int', ne_bl, eq_bl, idx_tup, idx_lst, idx_own, len_1, all_1, any_1, sum_1, tuple_1, list_1, sorted_1, int_1, abs_1, type_1, bind_nm, bind_tp, bind_ns, bind_tpl, min1_1, max1_1, mind_1, min2_1, max2_1, it_enum, enumB_lst, c_par, it_seq, it_rng1, it_rng2, rngA_int, rngB_int, it_zip, zip_tup, zip_lst, par_none, par_some, parB_int, sli_tup, sli_lst, step_none, step_some, wipe_nil, wipe_cons, List.map_cons, List.map_nil, List.length_cons, len_nil, List.all_cons, List.all_nil, List.replicate, List.cons_append, List.nil_append, List.append_nil, List.zip_cons_cons, List.zip_nil_right, List.foldl_cons, List.foldl_nil, eq_self, Option.bind_some, Option.map_some, Bool.not_false, Bool.not_true, Bool.true_and, Bool.and_true, Bool.false_and, Bool.and_false, Bool.or_true, Bool.true_or, Bool.or_false, Bool.false_or, if_true, Bool.false_eq_true, if_false, Nat.sub_self, Nat.reduceAdd, Nat.reduceSub, Nat.reduceEqDiff, ite_true, ite_false, Nat.reduceLeDiff, nm]
  rw [seqn (ev := fun c env S => evS T 59 c env S) s1, s_cons, c_ife, cnd, Option.bind_some]
  by_cases hp : p ∈ F
  · rw [if_pos hp, decide_eq_true hp]
    rfl
  · rw [if_neg hp, decide_eq_false hp]
    have ap : evS T 58 (.app 5 (.var 7)) (sF o P B F k (some (.int i)) (some (pairV p))) S1 = some (.nx (sF o P B (F ++ [p]) k (some (.int i)) (some (pairV p))), S1) := by
      rw [c_app]
      show (some (pairV p, S1)).bind _ = _
      rw [Option.bind_some]
      show (some (F.map pairV)).bind _ = _
      rw [Option.bind_some]
      dsimp only
      rw [show (pairV p).isOwn = false from rfl, Bool.false_or, decide_eq_true (show (F.map pairV).length < LIM by rw [List.length_map]; unfold LIM; omega)]
      show some (Fl.nx [some .stm, some o, some (.lst (P.map pairV)), some (.lst (B.map pairV)), some (.int k), some (.own (F.map pairV ++ [pairV p])), some (.int i), some (pairV p), none], S1) = _
      rw [show F.map pairV ++ [pairV p] = (F ++ [p]).map pairV by rw [List.map_append]; rfl]
    show ((seqL (fun c env S => evS T 58 c env S) [.app 5 (.var 7)] (sF o P B F k (some (.int i)) (some (pairV p))) S1).bind _) = _
    rw [seqn (ev := fun c env S => evS T 58 c env S) ap]
    rfl
theorem sh_turns {φ : Fn} (e : T.fn "_law_next" = some (2, φ)) (h : NextOk φ) (p1 : 1 ≤ P.length) (p2 : P.length ≤ 100) (pin : ∀ p ∈ P, PIn p) : ∀ (its : List Int) (F : Sh) (x6 x7 : Option PV) (S : Strm), SOk S → F.Nodup → (∀ p ∈ F, PIn p) → (F.length + its.length ≤ 10 ∨ ((∀ p ∈ F, p ∈ P) ∧ P.length ≤ 10)) →
    ∃ (F' : Sh) (y6 y7 : Option PV) (S' : Strm), forL (bodyF T 59 (.nm 6) lB) (its.map .int) (sF o P B F k x6 x7) S = some (.nx (sF o P B F' k y6 y7), S') ∧ SOk S' ∧ F'.Nodup ∧ (∀ p ∈ F', PIn p) ∧ F'.length ≤ 10
  | [], F, x6, x7, S, hS, nd, hin, hb => ⟨F, x6, x7, S, rfl, hS, nd, hin, by
      rcases hb with hb | ⟨hb, hl⟩
      · exact Nat.le_trans (Nat.le_add_right _ _) hb
      · exact Nat.le_trans (nd_sub_len nd hb) hl⟩
  | i :: its, F, x6, x7, S, hS, nd, hin, hb => by
    have fl : F.length ≤ 100 := by
      rcases hb with hb | ⟨hb, hl⟩
      · omega
      · have := nd_sub_len nd hb; omega
    obtain ⟨p, S1, hp, k1, w⟩ := sh_turn (T := T) (o := o) (P := P) (B := B) (F := F) (k := k) (i := i) (x6 := x6) (x7 := x7) e h hS p1 p2 fl
    have nd' : (if p ∈ F then F else F ++ [p]).Nodup := by
      split
      · exact nd
      · rename_i hn
        exact List.nodup_append.mpr ⟨nd, by simp, fun a ha b hb => by rw [List.mem_singleton] at hb; subst hb; exact fun e => hn (e ▸ ha)⟩
    have hin' : ∀ q ∈ (if p ∈ F then F else F ++ [p]), PIn q := fun q hq => by
      split at hq
      · exact hin q hq
      · rcases List.mem_append.mp hq with hq | hq
        · exact hin q hq
        · rw [List.mem_singleton.mp hq]; exact pin p hp
    have hb' : (if p ∈ F then F else F ++ [p]).length + its.length ≤ 10 ∨ ((∀ q ∈ (if p ∈ F then F else F ++ [p]), q ∈ P) ∧ P.length ≤ 10) := by
      rcases hb with hb | ⟨hb, hl⟩
      · left
        rw [List.length_cons] at hb
        split
        · omega
        · rw [List.length_append, List.length_singleton]; omega
      · right
        refine ⟨fun q hq => ?_, hl⟩
        split at hq
        · exact hb q hq
        · rcases List.mem_append.mp hq with hq | hq
          · exact hb q hq
          · rw [List.mem_singleton.mp hq]; exact hp
    obtain ⟨F', y6, y7, S2, v, k2, r1, r2, r3⟩ := sh_turns e h p1 p2 pin its _ (some (.int i)) (some (pairV p)) S1 k1 nd' hin' hb'
    refine ⟨F', y6, y7, S2, ?_, k2, r1, r2, r3⟩
    rw [List.map_cons, forL, w, Option.bind_some]
    exact v
theorem sh_skip {j : Int} {b : List CS} (h : k ≠ j) : evS T FU (.ife (.cmp .eq (.var 4) (.int j)) b []) (sE o P B k) S = some (.nx (sE o P B k), S) := by
  have c : evE T FU (.cmp .eq (.var 4) (.int j)) (sE o P B k) S = some (.bl (decide (k = j)), S) := rfl
  rw [c_ife, c, decide_eq_false h]
  rfl
theorem sh_cond : evE T FU (.cmp .eq (.var 4) (.int k)) (sE o P B k) S = some (.bl true, S) := by
  have c : evE T FU (.cmp .eq (.var 4) (.int k)) (sE o P B k) S = some (.bl (decide (k = k)), S) := rfl
  rw [c, decide_eq_true rfl]
end
end Ws

/-! Ws112: shapes that the law draws, the end. -/
namespace Ws
open PySem PySem.Spec L2

abbrev ov7 (a b c d e f g : Int) : PV := .lst [.int a, .int b, .int c, .int d, .int e, .int f, .int g]
def tch (a b : Int) (p : Int × Int) : Bool := decide (a ∈ [p.1, p.2]) || decide (b ∈ [p.1, p.2])
def q4 (a b c d : Int) (p : Int × Int) : Bool := decide (p.1 ∈ [a, b, c, d]) && decide (p.2 ∈ [a, b, c, d])
abbrev k0 : CS := .asg (.nm 2) (.comp (.var 7) (.nm 7) (.seq (.var 2)) (some (.or (.cmp .mem (.idx (.var 1) (.int 0)) (.var 7)) (.cmp .mem (.idx (.var 1) (.int 1)) (.var 7)))) [("pair", 7)])
abbrev k1 : CS := .asg (.nm 2) (.comp (.var 7) (.nm 7) (.seq (.var 2)) (some (.and (.cmp .mem (.idx (.var 7) (.int 0)) (.sli (.var 1) none (some (.int 4)))) (.cmp .mem (.idx (.var 7) (.int 1)) (.sli (.var 1) none (some (.int 4)))))) [("pair", 7)])
abbrev kb : CS := .asg (.nm 3) (.idx (.lst [(.var 2), (.lst [])]) (.call "_law_next" [(.var 0), (.int 2)]))
abbrev k2 : CS := .asg (.nm 2) (.call "_law_ring" [(.sli (.var 1) none (some (.int 5)))])
abbrev k3 : CS := .asg (.nm 3) (.comp (.call "_law_pair" [(.idx (.var 1) (.var 8)), (.idx (.var 1) (.bin .add (.var 8) (.int 1)))]) (.nm 8) (.seq (.lst [(.int 0), (.int 2), (.int 4)])) none [("at", 8)])
abbrev k4 : CS := .asg (.nm 3) (.bin .add (.call "_law_ring" [(.sli (.var 1) none (some (.int 3)))]) (.lst [(.call "_law_pair" [(.idx (.var 1) (.int 3)), (.idx (.var 1) (.int 4))])]))
section
variable {T : Tbl} {S : Strm} {P B : Sh} {a b c d e f g k : Int} {o : PV}
theorem mem_pr {x : Int} {p : Int × Int} : cmpV .mem (.int x) (pairV p) = some (decide (x ∈ [p.1, p.2])) := mem_tup (ns := [p.1, p.2])
theorem ife_one {n : Nat} {cd : CE} {b : CS} {env e' : Env} {S S' : Strm} (hc : evE T FU cd env S = some (.bl true, S)) (h : evS T n b env S = some (.nx e', S')) : evS T (n + 1) (.ife cd [b] []) env S = some (.nx e', S') := by
  rw [c_ife, hc, Option.bind_some]
  show ifeF T n [b] [] env S true = _
  rw [ife_t, seqn (ev := fun c env S => evS T n c env S) h]
  rfl
theorem ife_two {n : Nat} {cd : CE} {b b2 : CS} {env e' e2 : Env} {S S' S2 : Strm} (hc : evE T FU cd env S = some (.bl true, S)) (h : evS T n b env S = some (.nx e', S')) (h2 : evS T n b2 e' S' = some (.nx e2, S2)) : evS T (n + 1) (.ife cd [b, b2] []) env S = some (.nx e2, S2) := by
  rw [c_ife, hc, Option.bind_some]
  show ifeF T n [b, b2] [] env S true = _
  rw [ife_t, seqn (ev := fun c env S => evS T n c env S) h, seqn (ev := fun c env S => evS T n c env S) h2]
  rfl
theorem take0 (hP : P.length ≤ 100) : evS T 59 k0 (sE (ov7 a b c d e f g) P B k) S = some (.nx (sE (ov7 a b c d e f g) (P.filter (tch a b)) B k), S) := by
  have i0 : ∀ S, idxS S (ov7 a b c d e f g) (.int 0) = some (.int a) := fun _ => rfl
  have i1 : ∀ S, idxS S (ov7 a b c d e f g) (.int 1) = some (.int b) := fun _ => rfl
  have cc : compL (stepV (fun e env S => evE T 59 e env S) (.var 7) (.nm 7) (some (.or (.cmp .mem (.idx (.var 1) (.int 0)) (.var 7)) (.cmp .mem (.idx (.var 1) (.int 1)) (.var 7)))) (sE (ov7 a b c d e f g) P B k)) (P.map pairV) S = some ((P.filter (tch a b)).map pairV, S) := by
    refine compL_fil fun p hp => ?_
    have m1 := mem_pr (x := a) (p := p)
    have m2 := mem_pr (x := b) (p := p)
    have po : (pairV p).isOwn = false := rfl
    unfold sE tch at *
    generalize decide (a ∈ [p.1, p.2]) = b1 at *
    generalize decide (b ∈ [p.1, p.2]) = b2 at *
    generalize ov7 a b c d e f g = O at *
    generalize pairV p = pd at *
    generalize P.map pairV = Pm at *
    generalize B.map pairV = Bm at *
    simp only [evF_end, end_nx, end_rt, FU, e_non, e_bl, e_int, e_str, e_ty, e_var, getV_some, e_glo, e_tup, e_lst, e_bin, e_neg, negV_int, e_not, e_and, e_or, andV_bl, orV_bl, and_pure, or_pure, e_cmp, e_chain, e_ite, e_idx, e_sli, e_gcd, e_sset, gcdV_int, e_call, callR_ret, e_bi, e_comp, l_nil, l_cons, s_nil, s_cons, then_nx, then_rt, turn_eq, ife_t, ife_f, ifeG_eq, c_asg, c_ret, c_retO, c_exp, c_ife, c_for, c_asgO, c_app, c_sset, g0, gS, st0, stS, thaw_tup, thaw_lst, thaw_own, thaw_int, thaw_bl, thaw_str, thaw_non, thaw_stm, own_tup, own_lst, own_own, own_int, own_bl, own_str, own_non, own_ty, own_stm, tru_bl, tru_int, seq_tup, seq_lst, seq_own, lst_lst, lst_own, add_int, sub_int, eq_int, ne_int, lt_int', le_int', gt_int', ge_int', ne_bl, eq_bl, idx_tup, idx_lst, idx_own, len_1, all_1, any_1, sum_1, tuple_1, list_1, sorted_1, int_1, abs_1, type_1, bind_nm, bind_tp, bind_ns, bind_tpl, min1_1, max1_1, mind_1, min2_1, max2_1, it_enum, enumB_lst, c_par, it_seq, it_rng1, it_rng2, rngA_int, rngB_int, it_zip, zip_tup, zip_lst, par_none, par_some, parB_int, sli_tup, sli_lst, step_none, step_some, wipe_nil, wipe_cons, List.map_cons, List.map_nil, List.length_cons, len_nil, List.all_cons, List.all_nil, List.replicate, List.cons_append, List.nil_append, List.append_nil, List.zip_cons_cons, List.zip_nil_right, List.foldl_cons, List.foldl_nil, eq_self, Option.bind_some, Option.map_some, Bool.not_false, Bool.not_true, Bool.true_and, Bool.and_true, Bool.false_and, Bool.and_false, Bool.or_true, Bool.true_or, Bool.or_false, Bool.false_or, if_true, Bool.false_eq_true, if_false, Nat.sub_self, Nat.reduceAdd, Nat.reduceSub, Nat.reduceEqDiff, ite_true, ite_false, Nat.reduceLeDiff, i0, i1, m1, m2, po]
    cases b1 <;> cases b2 <;> rfl
  have ll : (P.map pairV).length ≤ LIM := by rw [List.length_map]; unfold LIM; omega
  unfold sE at *
  generalize ov7 a b c d e f g = O at *
  generalize (P.filter (tch a b)).map pairV = Q at *
  generalize P.map pairV = Pm at *
  generalize B.map pairV = Bm at *
  simp only [evF_end, end_nx, end_rt, FU, e_non, e_bl, e_int, e_str, e_ty, e_var, getV_some, e_glo, e_tup, e_lst, e_bin, e_neg, negV_int, e_not, e_and, e_or, andV_bl, orV_bl, and_pure, or_pure, e_cmp, e_chain, e_ite, e_idx, e_sli, e_gcd, e_sset, gcdV_int, e_call, callR_ret, e_bi, e_comp, l_nil, l_cons, s_nil, s_cons, then_nx, then_rt, turn_eq, ife_t, ife_f, ifeG_eq, c_asg, c_ret, c_retO, c_exp, c_ife, c_for, c_asgO, c_app, c_sset, g0, gS, st0, stS, thaw_tup, thaw_lst, thaw_own, thaw_int, thaw_bl, thaw_str, thaw_non, thaw_stm, own_tup, own_lst, own_own, own_int, own_bl, own_str, own_non, own_ty, own_stm, tru_bl, tru_int, seq_tup, seq_lst, seq_own, lst_lst, lst_own, add_int, sub_int, eq_int, ne_int, lt_int', le_int', gt_int', ge_int', ne_bl, eq_bl, idx_tup, idx_lst, idx_own, len_1, all_1, any_1, sum_1, tuple_1, list_1, sorted_1, int_1, abs_1, type_1, bind_nm, bind_tp, bind_ns, bind_tpl, min1_1, max1_1, mind_1, min2_1, max2_1, it_enum, enumB_lst, c_par, it_seq, it_rng1, it_rng2, rngA_int, rngB_int, it_zip, zip_tup, zip_lst, par_none, par_some, parB_int, sli_tup, sli_lst, step_none, step_some, wipe_nil, wipe_cons, List.map_cons, List.map_nil, List.length_cons, len_nil, List.all_cons, List.all_nil, List.replicate, List.cons_append, List.nil_append, List.append_nil, List.zip_cons_cons, List.zip_nil_right, List.foldl_cons, List.foldl_nil, eq_self, Option.bind_some, Option.map_some, Bool.not_false, Bool.not_true, Bool.true_and, Bool.and_true, Bool.false_and, Bool.and_false, Bool.or_true, Bool.true_or, Bool.or_false, Bool.false_or, if_true, Bool.false_eq_true, if_false, Nat.sub_self, Nat.reduceAdd, Nat.reduceSub, Nat.reduceEqDiff, ite_true, ite_false, Nat.reduceLeDiff, ll, cc]
theorem take1 (hP : P.length ≤ 100) : evS T 59 k1 (sE (ov7 a b c d e f g) P B k) S = some (.nx (sE (ov7 a b c d e f g) (P.filter (q4 a b c d)) B k), S) := by
  have sl : sliV (ov7 a b c d e f g) none (some 4) = some (.lst ([a, b, c, d].map .int)) := rfl
  have cc : compL (stepV (fun e env S => evE T 59 e env S) (.var 7) (.nm 7) (some (.and (.cmp .mem (.idx (.var 7) (.int 0)) (.sli (.var 1) none (some (.int 4)))) (.cmp .mem (.idx (.var 7) (.int 1)) (.sli (.var 1) none (some (.int 4)))))) (sE (ov7 a b c d e f g) P B k)) (P.map pairV) S = some ((P.filter (q4 a b c d)).map pairV, S) := by
    refine compL_fil fun p hp => ?_
    have m1 : cmpV .mem (.int p.1) (.lst ([a, b, c, d].map .int)) = some (decide (p.1 ∈ [a, b, c, d])) := mem_int (ns := [a, b, c, d])
    have m2 : cmpV .mem (.int p.2) (.lst ([a, b, c, d].map .int)) = some (decide (p.2 ∈ [a, b, c, d])) := mem_int (ns := [a, b, c, d])
    have i0 : ∀ S, idxS S (pairV p) (.int 0) = some (.int p.1) := fun _ => rfl
    have i1 : ∀ S, idxS S (pairV p) (.int 1) = some (.int p.2) := fun _ => rfl
    have po : (pairV p).isOwn = false := rfl
    unfold sE q4 at *
    generalize decide (p.1 ∈ [a, b, c, d]) = b1 at *
    generalize decide (p.2 ∈ [a, b, c, d]) = b2 at *
    generalize [a, b, c, d].map PV.int = X at *
    generalize ov7 a b c d e f g = O at *
    generalize pairV p = pd at *
    generalize P.map pairV = Pm at *
    generalize B.map pairV = Bm at *
    simp only [evF_end, end_nx, end_rt, FU, e_non, e_bl, e_int, e_str, e_ty, e_var, getV_some, e_glo, e_tup, e_lst, e_bin, e_neg, negV_int, e_not, e_and, e_or, andV_bl, orV_bl, and_pure, or_pure, e_cmp, e_chain, e_ite, e_idx, e_sli, e_gcd, e_sset, gcdV_int, e_call, callR_ret, e_bi, e_comp, l_nil, l_cons, s_nil, s_cons, then_nx, then_rt, turn_eq, ife_t, ife_f, ifeG_eq, c_asg, c_ret, c_retO, c_exp, c_ife, c_for, c_asgO, c_app, c_sset, g0, gS, st0, stS, thaw_tup, thaw_lst, thaw_own, thaw_int, thaw_bl, thaw_str, thaw_non, thaw_stm, own_tup, own_lst, own_own, own_int, own_bl, own_str, own_non, own_ty, own_stm, tru_bl, tru_int, seq_tup, seq_lst, seq_own, lst_lst, lst_own, add_int, sub_int, eq_int, ne_int, lt_int', le_int', gt_int', ge_int', ne_bl, eq_bl, idx_tup, idx_lst, idx_own, len_1, all_1, any_1, sum_1, tuple_1, list_1, sorted_1, int_1, abs_1, type_1, bind_nm, bind_tp, bind_ns, bind_tpl, min1_1, max1_1, mind_1, min2_1, max2_1, it_enum, enumB_lst, c_par, it_seq, it_rng1, it_rng2, rngA_int, rngB_int, it_zip, zip_tup, zip_lst, par_none, par_some, parB_int, sli_tup, sli_lst, step_none, step_some, wipe_nil, wipe_cons, List.map_cons, List.map_nil, List.length_cons, len_nil, List.all_cons, List.all_nil, List.replicate, List.cons_append, List.nil_append, List.append_nil, List.zip_cons_cons, List.zip_nil_right, List.foldl_cons, List.foldl_nil, eq_self, Option.bind_some, Option.map_some, Bool.not_false, Bool.not_true, Bool.true_and, Bool.and_true, Bool.false_and, Bool.and_false, Bool.or_true, Bool.true_or, Bool.or_false, Bool.false_or, if_true, Bool.false_eq_true, if_false, Nat.sub_self, Nat.reduceAdd, Nat.reduceSub, Nat.reduceEqDiff, ite_true, ite_false, Nat.reduceLeDiff, i0, i1, m1, m2, po, sl]
    cases b1 <;> cases b2 <;> rfl
  have ll : (P.map pairV).length ≤ LIM := by rw [List.length_map]; unfold LIM; omega
  unfold sE at *
  generalize ov7 a b c d e f g = O at *
  generalize (P.filter (q4 a b c d)).map pairV = Q at *
  generalize P.map pairV = Pm at *
  generalize B.map pairV = Bm at *
  simp only [evF_end, end_nx, end_rt, FU, e_non, e_bl, e_int, e_str, e_ty, e_var, getV_some, e_glo, e_tup, e_lst, e_bin, e_neg, negV_int, e_not, e_and, e_or, andV_bl, orV_bl, and_pure, or_pure, e_cmp, e_chain, e_ite, e_idx, e_sli, e_gcd, e_sset, gcdV_int, e_call, callR_ret, e_bi, e_comp, l_nil, l_cons, s_nil, s_cons, then_nx, then_rt, turn_eq, ife_t, ife_f, ifeG_eq, c_asg, c_ret, c_retO, c_exp, c_ife, c_for, c_asgO, c_app, c_sset, g0, gS, st0, stS, thaw_tup, thaw_lst, thaw_own, thaw_int, thaw_bl, thaw_str, thaw_non, thaw_stm, own_tup, own_lst, own_own, own_int, own_bl, own_str, own_non, own_ty, own_stm, tru_bl, tru_int, seq_tup, seq_lst, seq_own, lst_lst, lst_own, add_int, sub_int, eq_int, ne_int, lt_int', le_int', gt_int', ge_int', ne_bl, eq_bl, idx_tup, idx_lst, idx_own, len_1, all_1, any_1, sum_1, tuple_1, list_1, sorted_1, int_1, abs_1, type_1, bind_nm, bind_tp, bind_ns, bind_tpl, min1_1, max1_1, mind_1, min2_1, max2_1, it_enum, enumB_lst, c_par, it_seq, it_rng1, it_rng2, rngA_int, rngB_int, it_zip, zip_tup, zip_lst, par_none, par_some, parB_int, sli_tup, sli_lst, step_none, step_some, wipe_nil, wipe_cons, List.map_cons, List.map_nil, List.length_cons, len_nil, List.all_cons, List.all_nil, List.replicate, List.cons_append, List.nil_append, List.append_nil, List.zip_cons_cons, List.zip_nil_right, List.foldl_cons, List.foldl_nil, eq_self, Option.bind_some, Option.map_some, Bool.not_false, Bool.not_true, Bool.true_and, Bool.and_true, Bool.false_and, Bool.and_false, Bool.or_true, Bool.true_or, Bool.or_false, Bool.false_or, if_true, Bool.false_eq_true, if_false, Nat.sub_self, Nat.reduceAdd, Nat.reduceSub, Nat.reduceEqDiff, ite_true, ite_false, Nat.reduceLeDiff, ll, cc]
theorem takeB {φ : Fn} (e' : T.fn "_law_next" = some (2, φ)) (h : NextOk φ) (hS : SOk S) : ∃ B' S', evS T 59 kb (sE o P B k) S = some (.nx (sE o P B' k), S') ∧ (B' = P ∨ B' = []) ∧ SOk S' := by
  obtain ⟨d, S1, n1, n2, n3, n4⟩ := h S 2 hS (by decide) (by decide)
  have L2 := L2d'
  have l0 : decide (0 ≤ LIM) = true := by decide
  have hd : d = 0 ∨ d = 1 := by omega
  rcases hd with rfl | rfl
  · refine ⟨P, S1, ?_, .inl rfl, n4⟩
    unfold sE
    generalize P.map pairV = Pm
    generalize B.map pairV = Bm
    simp only [evF_end, end_nx, end_rt, FU, e_non, e_bl, e_int, e_str, e_ty, e_var, getV_some, e_glo, e_tup, e_lst, e_bin, e_neg, negV_int, e_not, e_and, e_or, andV_bl, orV_bl, and_pure, or_pure, e_cmp, e_chain, e_ite, e_idx, e_sli, e_gcd, e_sset, gcdV_int, e_call, callR_ret, e_bi, e_comp, l_nil, l_cons, s_nil, s_cons, then_nx, then_rt, turn_eq, ife_t, ife_f, ifeG_eq, c_asg, c_ret, c_retO, c_exp, c_ife, c_for, c_asgO, c_app, c_sset, g0, gS, st0, stS, thaw_tup, thaw_lst, thaw_own, thaw_int, thaw_bl, thaw_str, thaw_non, thaw_stm, own_tup, own_lst, own_own, own_int, own_bl, own_str, own_non, own_ty, own_stm, tru_bl, tru_int, seq_tup, seq_lst, seq_own, lst_lst, lst_own, add_int, sub_int, eq_int, ne_int, lt_int', le_int', gt_int', ge_int', ne_bl, eq_bl, idx_tup, idx_lst, idx_own, len_1, all_1, any_1, sum_1, tuple_1, list_1, sorted_1, int_1, abs_1, type_1, bind_nm, bind_tp, bind_ns, bind_tpl, min1_1, max1_1, mind_1, min2_1, max2_1, it_enum, enumB_lst, c_par, it_seq, it_rng1, it_rng2, rngA_int, rngB_int, it_zip, zip_tup, zip_lst, par_none, par_some, parB_int, sli_tup, sli_lst, step_none, step_some, wipe_nil, wipe_cons, List.map_cons, List.map_nil, List.length_cons, len_nil, List.all_cons, List.all_nil, List.replicate, List.cons_append, List.nil_append, List.append_nil, List.zip_cons_cons, List.zip_nil_right, List.foldl_cons, List.foldl_nil, eq_self, Option.bind_some, Option.map_some, Bool.not_false, Bool.not_true, Bool.true_and, Bool.and_true, Bool.false_and, Bool.and_false, Bool.or_true, Bool.true_or, Bool.or_false, Bool.false_or, if_true, Bool.false_eq_true, if_false, Nat.sub_self, Nat.reduceAdd, Nat.reduceSub, Nat.reduceEqDiff, ite_true, ite_false, Nat.reduceLeDiff, e', n1, L2, l0, atc0, callR_flat (x := .int 0) rfl (isO hS)]
  · refine ⟨[], S1, ?_, .inr rfl, n4⟩
    unfold sE
    rw [List.map_nil]
    generalize P.map pairV = Pm
    generalize B.map pairV = Bm
    simp only [evF_end, end_nx, end_rt, FU, e_non, e_bl, e_int, e_str, e_ty, e_var, getV_some, e_glo, e_tup, e_lst, e_bin, e_neg, negV_int, e_not, e_and, e_or, andV_bl, orV_bl, and_pure, or_pure, e_cmp, e_chain, e_ite, e_idx, e_sli, e_gcd, e_sset, gcdV_int, e_call, callR_ret, e_bi, e_comp, l_nil, l_cons, s_nil, s_cons, then_nx, then_rt, turn_eq, ife_t, ife_f, ifeG_eq, c_asg, c_ret, c_retO, c_exp, c_ife, c_for, c_asgO, c_app, c_sset, g0, gS, st0, stS, thaw_tup, thaw_lst, thaw_own, thaw_int, thaw_bl, thaw_str, thaw_non, thaw_stm, own_tup, own_lst, own_own, own_int, own_bl, own_str, own_non, own_ty, own_stm, tru_bl, tru_int, seq_tup, seq_lst, seq_own, lst_lst, lst_own, add_int, sub_int, eq_int, ne_int, lt_int', le_int', gt_int', ge_int', ne_bl, eq_bl, idx_tup, idx_lst, idx_own, len_1, all_1, any_1, sum_1, tuple_1, list_1, sorted_1, int_1, abs_1, type_1, bind_nm, bind_tp, bind_ns, bind_tpl, min1_1, max1_1, mind_1, min2_1, max2_1, it_enum, enumB_lst, c_par, it_seq, it_rng1, it_rng2, rngA_int, rngB_int, it_zip, zip_tup, zip_lst, par_none, par_some, parB_int, sli_tup, sli_lst, step_none, step_some, wipe_nil, wipe_cons, List.map_cons, List.map_nil, List.length_cons, len_nil, List.all_cons, List.all_nil, List.replicate, List.cons_append, List.nil_append, List.append_nil, List.zip_cons_cons, List.zip_nil_right, List.foldl_cons, List.foldl_nil, eq_self, Option.bind_some, Option.map_some, Bool.not_false, Bool.not_true, Bool.true_and, Bool.and_true, Bool.false_and, Bool.and_false, Bool.or_true, Bool.true_or, Bool.or_false, Bool.false_or, if_true, Bool.false_eq_true, if_false, Nat.sub_self, Nat.reduceAdd, Nat.reduceSub, Nat.reduceEqDiff, ite_true, ite_false, Nat.reduceLeDiff, e', n1, L2, l0, at2_1, callR_flat (x := .int 1) rfl (isO hS)]
theorem take2 {φ : Fn} (e' : T.fn "_law_ring" = some (1, φ)) (h : RingOk φ) : evS T 59 k2 (sE (ov7 a b c d e f g) P B k) S = some (.nx (sE (ov7 a b c d e f g) (ring5 a b c d e) B k), S) := by
  have sl : sliV (ov7 a b c d e f g) none (some 5) = some (.lst [.int a, .int b, .int c, .int d, .int e]) := rfl
  have w := h.2 a b c d e S
  have xo : (PV.lst [.int a, .int b, .int c, .int d, .int e]).isOwn = false := rfl
  have xt : (PV.lst [.int a, .int b, .int c, .int d, .int e]).thaw = .lst [.int a, .int b, .int c, .int d, .int e] := rfl
  unfold sE
  generalize PV.lst [PV.int a, PV.int b, PV.int c, PV.int d, PV.int e] = X at *
  generalize ov7 a b c d e f g = O at *
  generalize (ring5 a b c d e).map pairV = Q at *
  generalize P.map pairV = Pm at *
  generalize B.map pairV = Bm at *
  simp only [evF_end, end_nx, end_rt, FU, e_non, e_bl, e_int, e_str, e_ty, e_var, getV_some, e_glo, e_tup, e_lst, e_bin, e_neg, negV_int, e_not, e_and, e_or, andV_bl, orV_bl, and_pure, or_pure, e_cmp, e_chain, e_ite, e_idx, e_sli, e_gcd, e_sset, gcdV_int, e_call, callR_ret, e_bi, e_comp, l_nil, l_cons, s_nil, s_cons, then_nx, then_rt, turn_eq, ife_t, ife_f, ifeG_eq, c_asg, c_ret, c_retO, c_exp, c_ife, c_for, c_asgO, c_app, c_sset, g0, gS, st0, stS, thaw_tup, thaw_lst, thaw_own, thaw_int, thaw_bl, thaw_str, thaw_non, thaw_stm, own_tup, own_lst, own_own, own_int, own_bl, own_str, own_non, own_ty, own_stm, tru_bl, tru_int, seq_tup, seq_lst, seq_own, lst_lst, lst_own, add_int, sub_int, eq_int, ne_int, lt_int', le_int', gt_int', ge_int', ne_bl, eq_bl, idx_tup, idx_lst, idx_own, len_1, all_1, any_1, sum_1, tuple_1, list_1, sorted_1, int_1, abs_1, type_1, bind_nm, bind_tp, bind_ns, bind_tpl, min1_1, max1_1, mind_1, min2_1, max2_1, it_enum, enumB_lst, c_par, it_seq, it_rng1, it_rng2, rngA_int, rngB_int, it_zip, zip_tup, zip_lst, par_none, par_some, parB_int, sli_tup, sli_lst, step_none, step_some, wipe_nil, wipe_cons, List.map_cons, List.map_nil, List.length_cons, len_nil, List.all_cons, List.all_nil, List.replicate, List.cons_append, List.nil_append, List.append_nil, List.zip_cons_cons, List.zip_nil_right, List.foldl_cons, List.foldl_nil, eq_self, Option.bind_some, Option.map_some, Bool.not_false, Bool.not_true, Bool.true_and, Bool.and_true, Bool.false_and, Bool.and_false, Bool.or_true, Bool.true_or, Bool.or_false, Bool.false_or, if_true, Bool.false_eq_true, if_false, Nat.sub_self, Nat.reduceAdd, Nat.reduceSub, Nat.reduceEqDiff, ite_true, ite_false, Nat.reduceLeDiff, e', w, sl, xo, xt]
theorem take3 {φ : Fn} (e' : T.fn "_law_pair" = some (2, φ)) (h : LPairOk φ) : evS T 59 k3 (sE (ov7 a b c d e f g) P B k) S = some (.nx (sE (ov7 a b c d e f g) P [mkP a b, mkP c d, mkP e f] k), S) := by
  have st : ∀ i u v : Int, atI [PV.int a, PV.int b, PV.int c, PV.int d, PV.int e, PV.int f, PV.int g] i = some (PV.int u) → atI [PV.int a, PV.int b, PV.int c, PV.int d, PV.int e, PV.int f, PV.int g] (i + 1) = some (PV.int v) →
      stepV (fun e env S => evE T 59 e env S) (.call "_law_pair" [(.idx (.var 1) (.var 8)), (.idx (.var 1) (.bin .add (.var 8) (.int 1)))]) (.nm 8) none (sE (ov7 a b c d e f g) P B k) (.int i) S = some (some (pairV (mkP u v)), S) := fun i u v i1 i2 => by
    have w := h u v S
    have po : (pairV (mkP u v)).isOwn = false := rfl
    unfold sE ov7
    generalize pairV (mkP u v) = V at *
    generalize P.map pairV = Pm at *
    generalize B.map pairV = Bm at *
    generalize [PV.int a, PV.int b, PV.int c, PV.int d, PV.int e, PV.int f, PV.int g] = L at *
    simp only [evF_end, end_nx, end_rt, FU, e_non, e_bl, e_int, e_str, e_ty, e_var, getV_some, e_glo, e_tup, e_lst, e_bin, e_neg, negV_int, e_not, e_and, e_or, andV_bl, orV_bl, and_pure, or_pure, e_cmp, e_chain, e_ite, e_idx, e_sli, e_gcd, e_sset, gcdV_int, e_call, callR_ret, e_bi, e_comp, l_nil, l_cons, s_nil, s_cons, then_nx, then_rt, turn_eq, ife_t, ife_f, ifeG_eq, c_asg, c_ret, c_retO, c_exp, c_ife, c_for, c_asgO, c_app, c_sset, g0, gS, st0, stS, thaw_tup, thaw_lst, thaw_own, thaw_int, thaw_bl, thaw_str, thaw_non, thaw_stm, own_tup, own_lst, own_own, own_int, own_bl, own_str, own_non, own_ty, own_stm, tru_bl, tru_int, seq_tup, seq_lst, seq_own, lst_lst, lst_own, add_int, sub_int, eq_int, ne_int, lt_int', le_int', gt_int', ge_int', ne_bl, eq_bl, idx_tup, idx_lst, idx_own, len_1, all_1, any_1, sum_1, tuple_1, list_1, sorted_1, int_1, abs_1, type_1, bind_nm, bind_tp, bind_ns, bind_tpl, min1_1, max1_1, mind_1, min2_1, max2_1, it_enum, enumB_lst, c_par, it_seq, it_rng1, it_rng2, rngA_int, rngB_int, it_zip, zip_tup, zip_lst, par_none, par_some, parB_int, sli_tup, sli_lst, step_none, step_some, wipe_nil, wipe_cons, List.map_cons, List.map_nil, List.length_cons, len_nil, List.all_cons, List.all_nil, List.replicate, List.cons_append, List.nil_append, List.append_nil, List.zip_cons_cons, List.zip_nil_right, List.foldl_cons, List.foldl_nil, eq_self, Option.bind_some, Option.map_some, Bool.not_false, Bool.not_true, Bool.true_and, Bool.and_true, Bool.false_and, Bool.and_false, Bool.or_true, Bool.true_or, Bool.or_false, Bool.false_or, if_true, Bool.false_eq_true, if_false, Nat.sub_self, Nat.reduceAdd, Nat.reduceSub, Nat.reduceEqDiff, ite_true, ite_false, Nat.reduceLeDiff, e', i1, i2, w, po]
  have cc : compL (stepV (fun e env S => evE T 59 e env S) (.call "_law_pair" [(.idx (.var 1) (.var 8)), (.idx (.var 1) (.bin .add (.var 8) (.int 1)))]) (.nm 8) none (sE (ov7 a b c d e f g) P B k)) [.int 0, .int 2, .int 4] S = some ([mkP a b, mkP c d, mkP e f].map pairV, S) := by
    rw [compL, st 0 a b rfl rfl, Option.bind_some]
    dsimp only
    rw [compL, st 2 c d rfl rfl, Option.bind_some]
    dsimp only
    rw [compL, st 4 e f rfl rfl, Option.bind_some]
    rfl
  have L3 : decide (3 ≤ LIM) = true := by decide
  unfold sE at *
  generalize ov7 a b c d e f g = O at *
  generalize [mkP a b, mkP c d, mkP e f].map pairV = Q at *
  generalize P.map pairV = Pm at *
  generalize B.map pairV = Bm at *
  simp only [evF_end, end_nx, end_rt, FU, e_non, e_bl, e_int, e_str, e_ty, e_var, getV_some, e_glo, e_tup, e_lst, e_bin, e_neg, negV_int, e_not, e_and, e_or, andV_bl, orV_bl, and_pure, or_pure, e_cmp, e_chain, e_ite, e_idx, e_sli, e_gcd, e_sset, gcdV_int, e_call, callR_ret, e_bi, e_comp, l_nil, l_cons, s_nil, s_cons, then_nx, then_rt, turn_eq, ife_t, ife_f, ifeG_eq, c_asg, c_ret, c_retO, c_exp, c_ife, c_for, c_asgO, c_app, c_sset, g0, gS, st0, stS, thaw_tup, thaw_lst, thaw_own, thaw_int, thaw_bl, thaw_str, thaw_non, thaw_stm, own_tup, own_lst, own_own, own_int, own_bl, own_str, own_non, own_ty, own_stm, tru_bl, tru_int, seq_tup, seq_lst, seq_own, lst_lst, lst_own, add_int, sub_int, eq_int, ne_int, lt_int', le_int', gt_int', ge_int', ne_bl, eq_bl, idx_tup, idx_lst, idx_own, len_1, all_1, any_1, sum_1, tuple_1, list_1, sorted_1, int_1, abs_1, type_1, bind_nm, bind_tp, bind_ns, bind_tpl, min1_1, max1_1, mind_1, min2_1, max2_1, it_enum, enumB_lst, c_par, it_seq, it_rng1, it_rng2, rngA_int, rngB_int, it_zip, zip_tup, zip_lst, par_none, par_some, parB_int, sli_tup, sli_lst, step_none, step_some, wipe_nil, wipe_cons, List.map_cons, List.map_nil, List.length_cons, len_nil, List.all_cons, List.all_nil, List.replicate, List.cons_append, List.nil_append, List.append_nil, List.zip_cons_cons, List.zip_nil_right, List.foldl_cons, List.foldl_nil, eq_self, Option.bind_some, Option.map_some, Bool.not_false, Bool.not_true, Bool.true_and, Bool.and_true, Bool.false_and, Bool.and_false, Bool.or_true, Bool.true_or, Bool.or_false, Bool.false_or, if_true, Bool.false_eq_true, if_false, Nat.sub_self, Nat.reduceAdd, Nat.reduceSub, Nat.reduceEqDiff, ite_true, ite_false, Nat.reduceLeDiff, L3, cc]
  rw [if_pos (show 3 ≤ LIM by decide)]
  rfl
theorem take4 {φ ψ : Fn} (e' : T.fn "_law_pair" = some (2, φ)) (h : LPairOk φ) (e2 : T.fn "_law_ring" = some (1, ψ)) (h2 : RingOk ψ) : evS T 59 k4 (sE (ov7 a b c d e f g) P B k) S = some (.nx (sE (ov7 a b c d e f g) P (ring3 a b c ++ [mkP d e]) k), S) := by
  have sl : sliV (ov7 a b c d e f g) none (some 3) = some (.lst [.int a, .int b, .int c]) := rfl
  have i3 : ∀ S, idxS S (ov7 a b c d e f g) (.int 3) = some (.int d) := fun _ => rfl
  have i4 : ∀ S, idxS S (ov7 a b c d e f g) (.int 4) = some (.int e) := fun _ => rfl
  have w := h2.1 a b c S
  have w1 := h d e S
  have xo : (PV.lst [.int a, .int b, .int c]).isOwn = false := rfl
  have xt : (PV.lst [.int a, .int b, .int c]).thaw = .lst [.int a, .int b, .int c] := rfl
  have po : (pairV (mkP d e)).isOwn = false := rfl
  have L1 : decide (1 ≤ LIM) = true := by decide
  have ad : binV .add (.lst ((ring3 a b c).map pairV)) (.lst [pairV (mkP d e)]) = some (.lst ((ring3 a b c ++ [mkP d e]).map pairV)) := by
    rw [add_lst, if_pos (by rw [List.length_map]; show 3 + 1 ≤ LIM; decide), List.map_append]; rfl
  unfold sE
  generalize PV.lst [PV.int a, PV.int b, PV.int c] = X at *
  generalize ov7 a b c d e f g = O at *
  generalize (ring3 a b c ++ [mkP d e]).map pairV = Q2 at *
  generalize (ring3 a b c).map pairV = Q at *
  generalize pairV (mkP d e) = V at *
  generalize P.map pairV = Pm at *
  generalize B.map pairV = Bm at *
  simp only [evF_end, end_nx, end_rt, FU, e_non, e_bl, e_int, e_str, e_ty, e_var, getV_some, e_glo, e_tup, e_lst, e_bin, e_neg, negV_int, e_not, e_and, e_or, andV_bl, orV_bl, and_pure, or_pure, e_cmp, e_chain, e_ite, e_idx, e_sli, e_gcd, e_sset, gcdV_int, e_call, callR_ret, e_bi, e_comp, l_nil, l_cons, s_nil, s_cons, then_nx, then_rt, turn_eq, ife_t, ife_f, ifeG_eq, c_asg, c_ret, c_retO, c_exp, c_ife, c_for, c_asgO, c_app, c_sset, g0, gS, st0, stS, thaw_tup, thaw_lst, thaw_own, thaw_int, thaw_bl, thaw_str, thaw_non, thaw_stm, own_tup, own_lst, own_own, own_int, own_bl, own_str, own_non, own_ty, own_stm, tru_bl, tru_int, seq_tup, seq_lst, seq_own, lst_lst, lst_own, add_int, sub_int, eq_int, ne_int, lt_int', le_int', gt_int', ge_int', ne_bl, eq_bl, idx_tup, idx_lst, idx_own, len_1, all_1, any_1, sum_1, tuple_1, list_1, sorted_1, int_1, abs_1, type_1, bind_nm, bind_tp, bind_ns, bind_tpl, min1_1, max1_1, mind_1, min2_1, max2_1, it_enum, enumB_lst, c_par, it_seq, it_rng1, it_rng2, rngA_int, rngB_int, it_zip, zip_tup, zip_lst, par_none, par_some, parB_int, sli_tup, sli_lst, step_none, step_some, wipe_nil, wipe_cons, List.map_cons, List.map_nil, List.length_cons, len_nil, List.all_cons, List.all_nil, List.replicate, List.cons_append, List.nil_append, List.append_nil, List.zip_cons_cons, List.zip_nil_right, List.foldl_cons, List.foldl_nil, eq_self, Option.bind_some, Option.map_some, Bool.not_false, Bool.not_true, Bool.true_and, Bool.and_true, Bool.false_and, Bool.and_false, Bool.or_true, Bool.true_or, Bool.or_false, Bool.false_or, if_true, Bool.false_eq_true, if_false, Nat.sub_self, Nat.reduceAdd, Nat.reduceSub, Nat.reduceEqDiff, ite_true, ite_false, Nat.reduceLeDiff, e', e2, w, w1, sl, xo, xt, po, i3, i4, L1, ad]
end
/-! the pairs to draw from are good -/
theorem P7_eq : pairsL 7 = P7 := by decide +kernel
theorem pl7_in {p : Int × Int} (h : p ∈ pairsL 7) : PIn p := by
  have := pin2 (n := 7) (by decide) (by decide) h
  unfold PIn; omega
theorem pl7_nd : (pairsL 7).Nodup := by rw [P7_eq]; decide +kernel
theorem gd0 : Gd (pairsL 7) [] := ⟨by rw [P7_eq]; decide, by rw [P7_eq]; decide, fun p hp => pl7_in hp, (fun p hp => by cases hp), List.nodup_nil, .inl (by decide)⟩
abbrev s7 : List Int := [0, 1, 2, 3, 4, 5, 6]
theorem in_s7 {x : Int} (h : 0 ≤ x ∧ x < 7) : x ∈ s7 := by simp only [s7, List.mem_cons, List.not_mem_nil, or_false]; omega
theorem tch_all : (s7.all fun a => s7.all fun b => decide (1 ≤ (P7.filter (tch a b)).length)) = true := by decide +kernel
def q4B (a : Int) : Bool := s7.all fun b => decide (a = b) || s7.all fun c => s7.all fun d => decide (1 ≤ (P7.filter (q4 a b c d)).length ∧ (P7.filter (q4 a b c d)).length ≤ 10)
theorem q4_a0 : q4B 0 = true := by decide +kernel
theorem q4_a1 : q4B 1 = true := by decide +kernel
theorem q4_a2 : q4B 2 = true := by decide +kernel
theorem q4_a3 : q4B 3 = true := by decide +kernel
theorem q4_a4 : q4B 4 = true := by decide +kernel
theorem q4_a5 : q4B 5 = true := by decide +kernel
theorem q4_a6 : q4B 6 = true := by decide +kernel
theorem q4_at {a : Int} (h : 0 ≤ a ∧ a < 7) : q4B a = true := by
  have h' : a = 0 ∨ a = 1 ∨ a = 2 ∨ a = 3 ∨ a = 4 ∨ a = 5 ∨ a = 6 := by omega
  rcases h' with rfl | rfl | rfl | rfl | rfl | rfl | rfl
  · exact q4_a0
  · exact q4_a1
  · exact q4_a2
  · exact q4_a3
  · exact q4_a4
  · exact q4_a5
  · exact q4_a6
section
variable {a b c d e f g : Int}
theorem gd_t0 (ha : 0 ≤ a ∧ a < 7) (hb : 0 ≤ b ∧ b < 7) : Gd ((pairsL 7).filter (tch a b)) [] := by
  have w := of_decide_eq_true (List.all_eq_true.mp (List.all_eq_true.mp tch_all a (in_s7 ha)) b (in_s7 hb))
  have l := List.length_filter_le (tch a b) P7
  have l7 : P7.length = 21 := rfl
  refine ⟨by rw [P7_eq]; exact w, by rw [P7_eq]; omega, fun p hp => pl7_in (List.mem_filter.mp hp).1, (fun p hp => by cases hp), List.nodup_nil, .inl (by decide)⟩
theorem gd_t1 (ha : 0 ≤ a ∧ a < 7) (hb : 0 ≤ b ∧ b < 7) (hc : 0 ≤ c ∧ c < 7) (hd : 0 ≤ d ∧ d < 7) (h : a ≠ b) {B : Sh} (hB : B = (pairsL 7).filter (q4 a b c d) ∨ B = []) : Gd ((pairsL 7).filter (q4 a b c d)) B := by
  have w := List.all_eq_true.mp (q4_at ha) b (in_s7 hb)
  rw [decide_eq_false h, Bool.false_or] at w
  have w := of_decide_eq_true (List.all_eq_true.mp (List.all_eq_true.mp w c (in_s7 hc)) d (in_s7 hd))
  rw [← P7_eq] at w
  have pin : ∀ p ∈ (pairsL 7).filter (q4 a b c d), PIn p := fun p hp => pl7_in (List.mem_filter.mp hp).1
  rcases hB with rfl | rfl
  · exact ⟨w.1, by omega, pin, pin, pl7_nd.filter _, .inr ⟨fun p hp => hp, w.2⟩⟩
  · exact ⟨w.1, by omega, pin, (fun p hp => by cases hp), List.nodup_nil, .inl (by decide)⟩
theorem ring5_nd (n1 : [a, b, c, d, e].Nodup) : (ring5 a b c d e).Nodup := by
  simp only [List.nodup_cons, List.mem_cons, List.not_mem_nil, or_false, not_or, List.nodup_nil, not_false_eq_true, and_true] at n1
  unfold ring5
  simp only [List.nodup_cons, List.mem_cons, List.not_mem_nil, or_false, not_or, List.nodup_nil, not_false_eq_true, and_true]
  refine ⟨⟨?_, ?_, ?_, ?_⟩, ⟨?_, ?_, ?_⟩, ⟨?_, ?_⟩, ?_⟩ <;> exact mkP_ne (by omega)
theorem gd_t2 (ha : 0 ≤ a ∧ a < 7) (hb : 0 ≤ b ∧ b < 7) (hc : 0 ≤ c ∧ c < 7) (hd : 0 ≤ d ∧ d < 7) (he : 0 ≤ e ∧ e < 7) (n1 : [a, b, c, d, e].Nodup) {B : Sh} (hB : B = ring5 a b c d e ∨ B = []) : Gd (ring5 a b c d e) B := by
  have nd := ring5_nd n1
  simp only [List.nodup_cons, List.mem_cons, List.not_mem_nil, or_false, not_or, List.nodup_nil, not_false_eq_true, and_true] at n1
  have pin : ∀ p ∈ ring5 a b c d e, PIn p := fun p hp => by
    unfold ring5 at hp
    simp only [List.mem_cons, List.not_mem_nil, or_false] at hp
    rcases hp with rfl | rfl | rfl | rfl | rfl <;> exact mkP_in (by omega) (by omega) (by omega)
  rcases hB with rfl | rfl
  · exact ⟨by unfold ring5; simp, by unfold ring5; simp, pin, pin, nd, .inl (by unfold ring5; simp)⟩
  · exact ⟨by unfold ring5; simp, by unfold ring5; simp, pin, (fun p hp => by cases hp), List.nodup_nil, .inl (by decide)⟩
theorem gd_t3 (ha : 0 ≤ a ∧ a < 7) (hb : 0 ≤ b ∧ b < 7) (hc : 0 ≤ c ∧ c < 7) (hd : 0 ≤ d ∧ d < 7) (he : 0 ≤ e ∧ e < 7) (hf : 0 ≤ f ∧ f < 7) (n1 : [a, b, c, d, e, f].Nodup) : Gd (pairsL 7) [mkP a b, mkP c d, mkP e f] := by
  simp only [List.nodup_cons, List.mem_cons, List.not_mem_nil, or_false, not_or, List.nodup_nil, not_false_eq_true, and_true] at n1
  refine ⟨gd0.p1, gd0.p2, gd0.pin, fun p hp => ?_, ?_, .inl (by simp)⟩
  · simp only [List.mem_cons, List.not_mem_nil, or_false] at hp
    rcases hp with rfl | rfl | rfl <;> exact mkP_in (by omega) (by omega) (by omega)
  · simp only [List.nodup_cons, List.mem_cons, List.not_mem_nil, or_false, not_or, List.nodup_nil, not_false_eq_true, and_true]
    refine ⟨⟨?_, ?_⟩, ?_⟩ <;> exact mkP_ne (by omega)
theorem gd_t4 (ha : 0 ≤ a ∧ a < 7) (hb : 0 ≤ b ∧ b < 7) (hc : 0 ≤ c ∧ c < 7) (hd : 0 ≤ d ∧ d < 7) (he : 0 ≤ e ∧ e < 7) (n1 : [a, b, c, d, e].Nodup) : Gd (pairsL 7) (ring3 a b c ++ [mkP d e]) := by
  simp only [List.nodup_cons, List.mem_cons, List.not_mem_nil, or_false, not_or, List.nodup_nil, not_false_eq_true, and_true] at n1
  show Gd (pairsL 7) [mkP c a, mkP a b, mkP b c, mkP d e]
  refine ⟨gd0.p1, gd0.p2, gd0.pin, fun p hp => ?_, ?_, .inl (by simp)⟩
  · simp only [List.mem_cons, List.not_mem_nil, or_false] at hp
    rcases hp with rfl | rfl | rfl | rfl <;> exact mkP_in (by omega) (by omega) (by omega)
  · simp only [List.nodup_cons, List.mem_cons, List.not_mem_nil, or_false, not_or, List.nodup_nil, not_false_eq_true, and_true]
    refine ⟨⟨?_, ?_, ?_⟩, ⟨?_, ?_⟩, ?_⟩ <;> exact mkP_ne (by omega)
end
abbrev cdK (j : Int) : CE := .cmp .eq (.var 4) (.int j)
structure ShT (T : Tbl) : Prop where
  nx : ∃ φ, T.fn "_law_next" = some (2, φ) ∧ NextOk φ
  sf : ∃ φ, T.fn "_law_shuffled" = some (2, φ) ∧ Shuf2Ok φ
  al : ∃ φ, T.fn "_law_all_pairs" = some (1, φ) ∧ AllPOk φ
  pr : ∃ φ, T.fn "_law_pair" = some (2, φ) ∧ LPairOk φ
  rg : ∃ φ, T.fn "_law_ring" = some (1, φ) ∧ RingOk φ
theorem sh_mid {T : Tbl} (H : ShT T) {S : Strm} (hS : SOk S) {a b c d e f g k : Int} (n1 : [a, b, c, d, e, f, g].Nodup) (hin : ∀ x ∈ [a, b, c, d, e, f, g], 0 ≤ x ∧ x < 7) (h0 : 0 ≤ k) (h7 : k < 7) (rest : List CS) :
    ∃ P B S', seqL (fun c env S => evS T FU c env S) (.ife (cdK 0) [k0] [] :: .ife (cdK 1) [k1, kb] [] :: .ife (cdK 2) [k2, kb] [] :: .ife (cdK 3) [k3] [] :: .ife (cdK 4) [k4] [] :: rest) (sE (ov7 a b c d e f g) (pairsL 7) [] k) S = seqL (fun c env S => evS T FU c env S) rest (sE (ov7 a b c d e f g) P B k) S' ∧ Gd P B ∧ SOk S' := by
  obtain ⟨φn, en, hn⟩ := H.nx
  obtain ⟨φp, ep, hp⟩ := H.pr
  obtain ⟨φr, er, hr⟩ := H.rg
  have ia := hin a (by simp)
  have ib := hin b (by simp)
  have ic := hin c (by simp)
  have id' := hin d (by simp)
  have ie := hin e (by simp)
  have if' := hin f (by simp)
  have nd6 : [a, b, c, d, e, f].Nodup := n1.sublist (List.sublist_append_left [a, b, c, d, e, f] [g])
  have nd5 : [a, b, c, d, e].Nodup := n1.sublist (List.sublist_append_left [a, b, c, d, e] [f, g])
  have nab : a ≠ b := by
    intro h
    subst h
    simp at n1
  have hk : k = 0 ∨ k = 1 ∨ k = 2 ∨ k = 3 ∨ k = 4 ∨ (k = 5 ∨ k = 6) := by omega
  have l7 : (pairsL 7).length ≤ 100 := gd0.p2
  rcases hk with rfl | rfl | rfl | rfl | rfl | hk
  · refine ⟨_, _, S, ?_, gd_t0 ia ib, hS⟩
    rw [seqn (ife_one sh_cond (take0 l7)), seqn (sh_skip (by decide)), seqn (sh_skip (by decide)), seqn (sh_skip (by decide)), seqn (sh_skip (by decide))]
  · obtain ⟨B', S1, w, hB, k1⟩ := takeB (T := T) (o := ov7 a b c d e f g) (P := (pairsL 7).filter (q4 a b c d)) (B := []) (k := 1) en hn hS
    refine ⟨_, B', S1, ?_, gd_t1 ia ib ic id' nab hB, k1⟩
    rw [seqn (sh_skip (by decide)), seqn (ife_two sh_cond (take1 l7) w), seqn (sh_skip (by decide)), seqn (sh_skip (by decide)), seqn (sh_skip (by decide))]
  · obtain ⟨B', S1, w, hB, k1⟩ := takeB (T := T) (o := ov7 a b c d e f g) (P := ring5 a b c d e) (B := []) (k := 2) en hn hS
    refine ⟨_, B', S1, ?_, gd_t2 ia ib ic id' ie nd5 hB, k1⟩
    rw [seqn (sh_skip (by decide)), seqn (sh_skip (by decide)), seqn (ife_two sh_cond (take2 er hr) w), seqn (sh_skip (by decide)), seqn (sh_skip (by decide))]
  · refine ⟨_, _, S, ?_, gd_t3 ia ib ic id' ie if' nd6, hS⟩
    rw [seqn (sh_skip (by decide)), seqn (sh_skip (by decide)), seqn (sh_skip (by decide)), seqn (ife_one sh_cond (take3 ep hp)), seqn (sh_skip (by decide))]
  · refine ⟨_, _, S, ?_, gd_t4 ia ib ic id' ie nd5, hS⟩
    rw [seqn (sh_skip (by decide)), seqn (sh_skip (by decide)), seqn (sh_skip (by decide)), seqn (sh_skip (by decide)), seqn (ife_one sh_cond (take4 ep hp er hr))]
  · refine ⟨_, _, S, ?_, gd0, hS⟩
    rw [seqn (sh_skip (by omega)), seqn (sh_skip (by omega)), seqn (sh_skip (by omega)), seqn (sh_skip (by omega)), seqn (sh_skip (by omega))]
theorem seven {l : List Int} (h : l.length = 7) : ∃ a b c d e f g, l = [a, b, c, d, e, f, g] := by
  match l, h with
  | [a, b, c, d, e, f, g], _ => exact ⟨a, b, c, d, e, f, g, rfl⟩
def ShapeDOk (φ : Fn) : Prop := ∀ S, SOk S → ∃ sh S', φ [.stm] S = some (.ret (shV sh), S') ∧ GoodSh sh ∧ SOk S'
theorem lawShape_ok {T : Tbl} (H : ShT T) : ShapeDOk (evF T 9 P.c__law_shape) := by
  intro S hS
  obtain ⟨φs, es, hs⟩ := H.sf
  obtain ⟨φn, en, hn⟩ := H.nx
  obtain ⟨φa, ea, ha⟩ := H.al
  obtain ⟨o, S1, w1, perm, k1⟩ := hs S 7 hS (by decide) (by decide)
  obtain ⟨k, S2, w2, kk0, kk7, k2'⟩ := hn S1 7 k1 (by decide) (by decide)
  have wa := ha 7 S1 (by decide) (by decide)
  have nd : o.Nodup := perm.nodup_iff.mpr (by decide +kernel)
  have hin : ∀ x ∈ o, 0 ≤ x ∧ x < 7 := fun x hx => by
    have := (List.Perm.mem_iff perm).mp hx
    have e7 : rngI 7 = s7 := by decide +kernel
    rw [e7] at this
    simp only [s7, List.mem_cons, List.not_mem_nil, or_false] at this
    omega
  obtain ⟨a, b, c, d, e, f, g, rfl⟩ := seven (l := o) (by rw [perm.length_eq]; decide +kernel)
  obtain ⟨Q, B, S3, w3, gd, k3⟩ := sh_mid H k2' nd hin kk0 kk7 [.asgO 5 (.bi .list [(.var 3)]), .for_ (.nm 6) (.rng1 (.call "_law_next" [(.var 0), (.int 6)])) lB, .ret (.bi .tuple [(.bi .sorted [(.var 5)])])]
  obtain ⟨m, S4, w4, m0, m6, k4'⟩ := hn S3 6 k3 (by decide) (by decide)
  have lm : (rngI m).length ≤ 5 := by rw [rngI_len]; omega
  obtain ⟨F, y6, y7, S5, w5, k5, f1, f2, f3⟩ := sh_turns (T := T) (o := ov7 a b c d e f g) (k := k) (B := B) en hn gd.p1 gd.p2 gd.pin (rngI m) B none none S4 k4' gd.nd gd.bin (by
    rcases gd.b with h | h
    · left; omega
    · right; exact h)
  refine ⟨isort le2 F, S5, ?_, good_nd f1 f2 f3, k5⟩
  have hm : [a, b, c, d, e, f, g].map PV.int = [PV.int a, .int b, .int c, .int d, .int e, .int f, .int g] := rfl
  rw [hm] at w1
  have s0 : evS T FU (.asg (.nm 1) (.call "_law_shuffled" [(.var 0), (.int 7)])) [some .stm, none, none, none, none, none, none, none, none] S = some (.nx [some .stm, some (ov7 a b c d e f g), none, none, none, none, none, none, none], S1) := by
    have xo : (ov7 a b c d e f g).isOwn = false := rfl
    simp only [evF_end, end_nx, end_rt, FU, e_non, e_bl, e_int, e_str, e_ty, e_var, getV_some, e_glo, e_tup, e_lst, e_bin, e_neg, negV_int, e_not, e_and, e_or, andV_bl, orV_bl, and_pure, or_pure, e_cmp, e_chain, e_ite, e_idx, e_sli, e_gcd, e_sset, gcdV_int, e_call, callR_ret, e_bi, e_comp, l_nil, l_cons, s_nil, s_cons, then_nx, then_rt, turn_eq, ife_t, ife_f, ifeG_eq, c_asg, c_ret, c_retO, c_exp, c_ife, c_for, c_asgO, c_app, c_sset, g0, gS, st0, stS, thaw_tup, thaw_lst, thaw_own, thaw_int, thaw_bl, thaw_str, thaw_non, thaw_stm, own_tup, own_lst, own_own, own_int, own_bl, own_str, own_non, own_ty, own_stm, tru_bl, tru_int, seq_tup, seq_lst, seq_own, lst_lst, lst_own, add_int, sub_int, eq_int, ne_int, lt_int', le_int', gt_int', ge_int', ne_bl, eq_bl, idx_tup, idx_lst, idx_own, len_1, all_1, any_1, sum_1, tuple_1, list_1, sorted_1, int_1, abs_1, type_1, bind_nm, bind_tp, bind_ns, bind_tpl, min1_1, max1_1, mind_1, min2_1, max2_1, it_enum, enumB_lst, c_par, it_seq, it_rng1, it_rng2, rngA_int, rngB_int, it_zip, zip_tup, zip_lst, par_none, par_some, parB_int, sli_tup, sli_lst, step_none, step_some, wipe_nil, wipe_cons, List.map_cons, List.map_nil, List.length_cons, len_nil, List.all_cons, List.all_nil, List.replicate, List.cons_append, List.nil_append, List.append_nil, List.zip_cons_cons, List.zip_nil_right, List.foldl_cons, List.foldl_nil, eq_self, Option.bind_some, Option.map_some, Bool.not_false, Bool.not_true, Bool.true_and, Bool.and_true, Bool.false_and, Bool.and_false, Bool.or_true, Bool.true_or, Bool.or_false, Bool.false_or, if_true, Bool.false_eq_true, if_false, Nat.sub_self, Nat.reduceAdd, Nat.reduceSub, Nat.reduceEqDiff, ite_true, ite_false, Nat.reduceLeDiff, es, w1, isO hS]
  have s1 : evS T FU (.asg (.nm 2) (.call "_law_all_pairs" [(.int 7)])) [some .stm, some (ov7 a b c d e f g), none, none, none, none, none, none, none] S1 = some (.nx [some .stm, some (ov7 a b c d e f g), some (.lst ((pairsL 7).map pairV)), none, none, none, none, none, none], S1) := by
    generalize ov7 a b c d e f g = O at *
    generalize (pairsL 7).map pairV = Pm at *
    simp only [evF_end, end_nx, end_rt, FU, e_non, e_bl, e_int, e_str, e_ty, e_var, getV_some, e_glo, e_tup, e_lst, e_bin, e_neg, negV_int, e_not, e_and, e_or, andV_bl, orV_bl, and_pure, or_pure, e_cmp, e_chain, e_ite, e_idx, e_sli, e_gcd, e_sset, gcdV_int, e_call, callR_ret, e_bi, e_comp, l_nil, l_cons, s_nil, s_cons, then_nx, then_rt, turn_eq, ife_t, ife_f, ifeG_eq, c_asg, c_ret, c_retO, c_exp, c_ife, c_for, c_asgO, c_app, c_sset, g0, gS, st0, stS, thaw_tup, thaw_lst, thaw_own, thaw_int, thaw_bl, thaw_str, thaw_non, thaw_stm, own_tup, own_lst, own_own, own_int, own_bl, own_str, own_non, own_ty, own_stm, tru_bl, tru_int, seq_tup, seq_lst, seq_own, lst_lst, lst_own, add_int, sub_int, eq_int, ne_int, lt_int', le_int', gt_int', ge_int', ne_bl, eq_bl, idx_tup, idx_lst, idx_own, len_1, all_1, any_1, sum_1, tuple_1, list_1, sorted_1, int_1, abs_1, type_1, bind_nm, bind_tp, bind_ns, bind_tpl, min1_1, max1_1, mind_1, min2_1, max2_1, it_enum, enumB_lst, c_par, it_seq, it_rng1, it_rng2, rngA_int, rngB_int, it_zip, zip_tup, zip_lst, par_none, par_some, parB_int, sli_tup, sli_lst, step_none, step_some, wipe_nil, wipe_cons, List.map_cons, List.map_nil, List.length_cons, len_nil, List.all_cons, List.all_nil, List.replicate, List.cons_append, List.nil_append, List.append_nil, List.zip_cons_cons, List.zip_nil_right, List.foldl_cons, List.foldl_nil, eq_self, Option.bind_some, Option.map_some, Bool.not_false, Bool.not_true, Bool.true_and, Bool.and_true, Bool.false_and, Bool.and_false, Bool.or_true, Bool.true_or, Bool.or_false, Bool.false_or, if_true, Bool.false_eq_true, if_false, Nat.sub_self, Nat.reduceAdd, Nat.reduceSub, Nat.reduceEqDiff, ite_true, ite_false, Nat.reduceLeDiff, ea, wa]
  have s2 : evS T FU (.asg (.nm 3) (.lst [])) [some .stm, some (ov7 a b c d e f g), some (.lst ((pairsL 7).map pairV)), none, none, none, none, none, none] S1 = some (.nx [some .stm, some (ov7 a b c d e f g), some (.lst ((pairsL 7).map pairV)), some (.lst []), none, none, none, none, none], S1) := by
    have l0 : decide (0 ≤ LIM) = true := by decide
    generalize ov7 a b c d e f g = O at *
    generalize (pairsL 7).map pairV = Pm at *
    simp only [evF_end, end_nx, end_rt, FU, e_non, e_bl, e_int, e_str, e_ty, e_var, getV_some, e_glo, e_tup, e_lst, e_bin, e_neg, negV_int, e_not, e_and, e_or, andV_bl, orV_bl, and_pure, or_pure, e_cmp, e_chain, e_ite, e_idx, e_sli, e_gcd, e_sset, gcdV_int, e_call, callR_ret, e_bi, e_comp, l_nil, l_cons, s_nil, s_cons, then_nx, then_rt, turn_eq, ife_t, ife_f, ifeG_eq, c_asg, c_ret, c_retO, c_exp, c_ife, c_for, c_asgO, c_app, c_sset, g0, gS, st0, stS, thaw_tup, thaw_lst, thaw_own, thaw_int, thaw_bl, thaw_str, thaw_non, thaw_stm, own_tup, own_lst, own_own, own_int, own_bl, own_str, own_non, own_ty, own_stm, tru_bl, tru_int, seq_tup, seq_lst, seq_own, lst_lst, lst_own, add_int, sub_int, eq_int, ne_int, lt_int', le_int', gt_int', ge_int', ne_bl, eq_bl, idx_tup, idx_lst, idx_own, len_1, all_1, any_1, sum_1, tuple_1, list_1, sorted_1, int_1, abs_1, type_1, bind_nm, bind_tp, bind_ns, bind_tpl, min1_1, max1_1, mind_1, min2_1, max2_1, it_enum, enumB_lst, c_par, it_seq, it_rng1, it_rng2, rngA_int, rngB_int, it_zip, zip_tup, zip_lst, par_none, par_some, parB_int, sli_tup, sli_lst, step_none, step_some, wipe_nil, wipe_cons, List.map_cons, List.map_nil, List.length_cons, len_nil, List.all_cons, List.all_nil, List.replicate, List.cons_append, List.nil_append, List.append_nil, List.zip_cons_cons, List.zip_nil_right, List.foldl_cons, List.foldl_nil, eq_self, Option.bind_some, Option.map_some, Bool.not_false, Bool.not_true, Bool.true_and, Bool.and_true, Bool.false_and, Bool.and_false, Bool.or_true, Bool.true_or, Bool.or_false, Bool.false_or, if_true, Bool.false_eq_true, if_false, Nat.sub_self, Nat.reduceAdd, Nat.reduceSub, Nat.reduceEqDiff, ite_true, ite_false, Nat.reduceLeDiff, l0]
  have s3 : evS T FU (.asg (.nm 4) (.call "_law_next" [(.var 0), (.int 7)])) [some .stm, some (ov7 a b c d e f g), some (.lst ((pairsL 7).map pairV)), some (.lst []), none, none, none, none, none] S1 = some (.nx (sE (ov7 a b c d e f g) (pairsL 7) [] k), S2) := by
    unfold sE
    rw [List.map_nil]
    generalize ov7 a b c d e f g = O at *
    generalize (pairsL 7).map pairV = Pm at *
    simp only [evF_end, end_nx, end_rt, FU, e_non, e_bl, e_int, e_str, e_ty, e_var, getV_some, e_glo, e_tup, e_lst, e_bin, e_neg, negV_int, e_not, e_and, e_or, andV_bl, orV_bl, and_pure, or_pure, e_cmp, e_chain, e_ite, e_idx, e_sli, e_gcd, e_sset, gcdV_int, e_call, callR_ret, e_bi, e_comp, l_nil, l_cons, s_nil, s_cons, then_nx, then_rt, turn_eq, ife_t, ife_f, ifeG_eq, c_asg, c_ret, c_retO, c_exp, c_ife, c_for, c_asgO, c_app, c_sset, g0, gS, st0, stS, thaw_tup, thaw_lst, thaw_own, thaw_int, thaw_bl, thaw_str, thaw_non, thaw_stm, own_tup, own_lst, own_own, own_int, own_bl, own_str, own_non, own_ty, own_stm, tru_bl, tru_int, seq_tup, seq_lst, seq_own, lst_lst, lst_own, add_int, sub_int, eq_int, ne_int, lt_int', le_int', gt_int', ge_int', ne_bl, eq_bl, idx_tup, idx_lst, idx_own, len_1, all_1, any_1, sum_1, tuple_1, list_1, sorted_1, int_1, abs_1, type_1, bind_nm, bind_tp, bind_ns, bind_tpl, min1_1, max1_1, mind_1, min2_1, max2_1, it_enum, enumB_lst, c_par, it_seq, it_rng1, it_rng2, rngA_int, rngB_int, it_zip, zip_tup, zip_lst, par_none, par_some, parB_int, sli_tup, sli_lst, step_none, step_some, wipe_nil, wipe_cons, List.map_cons, List.map_nil, List.length_cons, len_nil, List.all_cons, List.all_nil, List.replicate, List.cons_append, List.nil_append, List.append_nil, List.zip_cons_cons, List.zip_nil_right, List.foldl_cons, List.foldl_nil, eq_self, Option.bind_some, Option.map_some, Bool.not_false, Bool.not_true, Bool.true_and, Bool.and_true, Bool.false_and, Bool.and_false, Bool.or_true, Bool.true_or, Bool.or_false, Bool.false_or, if_true, Bool.false_eq_true, if_false, Nat.sub_self, Nat.reduceAdd, Nat.reduceSub, Nat.reduceEqDiff, ite_true, ite_false, Nat.reduceLeDiff, en, w2, callR_flat (x := .int k) rfl (isO k1)]
  have lb : B.length ≤ 10 := by
    rcases gd.b with h | h
    · omega
    · exact Nat.le_trans (nd_sub_len gd.nd h.1) h.2
  have s5 : evS T FU (.asgO 5 (.bi .list [(.var 3)])) (sE (ov7 a b c d e f g) Q B k) S3 = some (.nx (sF (ov7 a b c d e f g) Q B B k none none), S3) := by
    unfold sE sF
    have lp : (B.map pairV).length ≤ LIM := by rw [List.length_map]; unfold LIM; omega
    generalize ov7 a b c d e f g = O at *
    generalize Q.map pairV = Pm at *
    generalize B.map pairV = Bm at *
    simp only [evF_end, end_nx, end_rt, FU, e_non, e_bl, e_int, e_str, e_ty, e_var, getV_some, e_glo, e_tup, e_lst, e_bin, e_neg, negV_int, e_not, e_and, e_or, andV_bl, orV_bl, and_pure, or_pure, e_cmp, e_chain, e_ite, e_idx, e_sli, e_gcd, e_sset, gcdV_int, e_call, callR_ret, e_bi, e_comp, l_nil, l_cons, s_nil, s_cons, then_nx, then_rt, turn_eq, ife_t, ife_f, ifeG_eq, c_asg, c_ret, c_retO, c_exp, c_ife, c_for, c_asgO, c_app, c_sset, g0, gS, st0, stS, thaw_tup, thaw_lst, thaw_own, thaw_int, thaw_bl, thaw_str, thaw_non, thaw_stm, own_tup, own_lst, own_own, own_int, own_bl, own_str, own_non, own_ty, own_stm, tru_bl, tru_int, seq_tup, seq_lst, seq_own, lst_lst, lst_own, add_int, sub_int, eq_int, ne_int, lt_int', le_int', gt_int', ge_int', ne_bl, eq_bl, idx_tup, idx_lst, idx_own, len_1, all_1, any_1, sum_1, tuple_1, list_1, sorted_1, int_1, abs_1, type_1, bind_nm, bind_tp, bind_ns, bind_tpl, min1_1, max1_1, mind_1, min2_1, max2_1, it_enum, enumB_lst, c_par, it_seq, it_rng1, it_rng2, rngA_int, rngB_int, it_zip, zip_tup, zip_lst, par_none, par_some, parB_int, sli_tup, sli_lst, step_none, step_some, wipe_nil, wipe_cons, List.map_cons, List.map_nil, List.length_cons, len_nil, List.all_cons, List.all_nil, List.replicate, List.cons_append, List.nil_append, List.append_nil, List.zip_cons_cons, List.zip_nil_right, List.foldl_cons, List.foldl_nil, eq_self, Option.bind_some, Option.map_some, Bool.not_false, Bool.not_true, Bool.true_and, Bool.and_true, Bool.false_and, Bool.and_false, Bool.or_true, Bool.true_or, Bool.or_false, Bool.false_or, if_true, Bool.false_eq_true, if_false, Nat.sub_self, Nat.reduceAdd, Nat.reduceSub, Nat.reduceEqDiff, ite_true, ite_false, Nat.reduceLeDiff, show isFresh (.bi .list [(.var 3)]) = true from rfl, lp, asgO_ok (show (5 : Nat) < [some PV.stm, some O, some (.lst Pm), some (.lst Bm), some (.int k), none, none, none, none].length from by show 5 < 9; decide) (isO k3)]
  have s6 : evS T FU (.for_ (.nm 6) (.rng1 (.call "_law_next" [(.var 0), (.int 6)])) lB) (sF (ov7 a b c d e f g) Q B B k none none) S3 = some (.nx (sF (ov7 a b c d e f g) Q B F k y6 y7), S5) := by
    have e1 : evE T FU (.call "_law_next" [(.var 0), (.int 6)]) (sF (ov7 a b c d e f g) Q B B k none none) S3 = some (.int m, S4) := by
      unfold sF
      generalize ov7 a b c d e f g = O at *
      generalize Q.map pairV = Pm at *
      generalize B.map pairV = Bm at *
      simp only [evF_end, end_nx, end_rt, FU, e_non, e_bl, e_int, e_str, e_ty, e_var, getV_some, e_glo, e_tup, e_lst, e_bin, e_neg, negV_int, e_not, e_and, e_or, andV_bl, orV_bl, and_pure, or_pure, e_cmp, e_chain, e_ite, e_idx, e_sli, e_gcd, e_sset, gcdV_int, e_call, callR_ret, e_bi, e_comp, l_nil, l_cons, s_nil, s_cons, then_nx, then_rt, turn_eq, ife_t, ife_f, ifeG_eq, c_asg, c_ret, c_retO, c_exp, c_ife, c_for, c_asgO, c_app, c_sset, g0, gS, st0, stS, thaw_tup, thaw_lst, thaw_own, thaw_int, thaw_bl, thaw_str, thaw_non, thaw_stm, own_tup, own_lst, own_own, own_int, own_bl, own_str, own_non, own_ty, own_stm, tru_bl, tru_int, seq_tup, seq_lst, seq_own, lst_lst, lst_own, add_int, sub_int, eq_int, ne_int, lt_int', le_int', gt_int', ge_int', ne_bl, eq_bl, idx_tup, idx_lst, idx_own, len_1, all_1, any_1, sum_1, tuple_1, list_1, sorted_1, int_1, abs_1, type_1, bind_nm, bind_tp, bind_ns, bind_tpl, min1_1, max1_1, mind_1, min2_1, max2_1, it_enum, enumB_lst, c_par, it_seq, it_rng1, it_rng2, rngA_int, rngB_int, it_zip, zip_tup, zip_lst, par_none, par_some, parB_int, sli_tup, sli_lst, step_none, step_some, wipe_nil, wipe_cons, List.map_cons, List.map_nil, List.length_cons, len_nil, List.all_cons, List.all_nil, List.replicate, List.cons_append, List.nil_append, List.append_nil, List.zip_cons_cons, List.zip_nil_right, List.foldl_cons, List.foldl_nil, eq_self, Option.bind_some, Option.map_some, Bool.not_false, Bool.not_true, Bool.true_and, Bool.and_true, Bool.false_and, Bool.and_false, Bool.or_true, Bool.true_or, Bool.or_false, Bool.false_or, if_true, Bool.false_eq_true, if_false, Nat.sub_self, Nat.reduceAdd, Nat.reduceSub, Nat.reduceEqDiff, ite_true, ite_false, Nat.reduceLeDiff, en, w4, callR_flat (x := .int m) rfl (isO k3)]
    rw [c_for, it_rng1, e1, Option.bind_some, rngA_int, if_pos (by unfold inR; simp; omega), rangeV_rng]
    exact w5
  have s7' : evS T FU (.ret (.bi .tuple [(.bi .sorted [(.var 5)])])) (sF (ov7 a b c d e f g) Q B F k y6 y7) S5 = some (.rt (shV (isort le2 F)), S5) := by
    have ss := srt_sh (l := F)
    unfold sF
    show _ = some (Fl.rt (.tup ((isort le2 F).map pairV)), S5)
    generalize ov7 a b c d e f g = O at *
    generalize Q.map pairV = Pm at *
    generalize B.map pairV = Bm at *
    generalize (isort le2 F).map pairV = R at *
    generalize F.map pairV = Fm at *
    simp only [evF_end, end_nx, end_rt, FU, e_non, e_bl, e_int, e_str, e_ty, e_var, getV_some, e_glo, e_tup, e_lst, e_bin, e_neg, negV_int, e_not, e_and, e_or, andV_bl, orV_bl, and_pure, or_pure, e_cmp, e_chain, e_ite, e_idx, e_sli, e_gcd, e_sset, gcdV_int, e_call, callR_ret, e_bi, e_comp, l_nil, l_cons, s_nil, s_cons, then_nx, then_rt, turn_eq, ife_t, ife_f, ifeG_eq, c_asg, c_ret, c_retO, c_exp, c_ife, c_for, c_asgO, c_app, c_sset, g0, gS, st0, stS, thaw_tup, thaw_lst, thaw_own, thaw_int, thaw_bl, thaw_str, thaw_non, thaw_stm, own_tup, own_lst, own_own, own_int, own_bl, own_str, own_non, own_ty, own_stm, tru_bl, tru_int, seq_tup, seq_lst, seq_own, lst_lst, lst_own, add_int, sub_int, eq_int, ne_int, lt_int', le_int', gt_int', ge_int', ne_bl, eq_bl, idx_tup, idx_lst, idx_own, len_1, all_1, any_1, sum_1, tuple_1, list_1, sorted_1, int_1, abs_1, type_1, bind_nm, bind_tp, bind_ns, bind_tpl, min1_1, max1_1, mind_1, min2_1, max2_1, it_enum, enumB_lst, c_par, it_seq, it_rng1, it_rng2, rngA_int, rngB_int, it_zip, zip_tup, zip_lst, par_none, par_some, parB_int, sli_tup, sli_lst, step_none, step_some, wipe_nil, wipe_cons, List.map_cons, List.map_nil, List.length_cons, len_nil, List.all_cons, List.all_nil, List.replicate, List.cons_append, List.nil_append, List.append_nil, List.zip_cons_cons, List.zip_nil_right, List.foldl_cons, List.foldl_nil, eq_self, Option.bind_some, Option.map_some, Bool.not_false, Bool.not_true, Bool.true_and, Bool.and_true, Bool.false_and, Bool.and_false, Bool.or_true, Bool.true_or, Bool.or_false, Bool.false_or, if_true, Bool.false_eq_true, if_false, Nat.sub_self, Nat.reduceAdd, Nat.reduceSub, Nat.reduceEqDiff, ite_true, ite_false, Nat.reduceLeDiff, ss]
  show (seqL (fun c env S => evS T FU c env S) P.c__law_shape [some .stm, none, none, none, none, none, none, none, none] S).map endV = _
  unfold P.c__law_shape
  rw [seqn s0, seqn s1, seqn s2, seqn s3]
  refine (congrArg (Option.map endV) w3).trans ?_
  rw [seqn s5, seqn s6, seqr s7']
  rfl
end Ws

namespace K25
open PySem PySem.Spec PyProof.Rows L2 Ws
def top (i : Nat) : Stmt := PySem.Challenge.pw_wishshapes_k25_whole_pairs_that_may_join.main.body.getD i (.Pass ⟨0, 0, 0, 0⟩)
abbrev bts : List Str := ["abs", "int", "len", "list", "range", "max", "min", "sorted", "tuple", "type", "all", "zip", "combinations", "bool", "isinstance", "str"]
abbrev s__law_stream : Stmt := top 23
abbrev N__law_stream : List Str := ["script"]
theorem sc__law_stream : FnScope N__law_stream ["script"] (defScope s__law_stream) := ⟨rfl, rfl, rfl, by decide +kernel, rfl, by decide +kernel, by decide +kernel⟩
abbrev s__law_next : Stmt := top 24
abbrev N__law_next : List Str := P.N__law_next
abbrev c__law_next : List CS := P.c__law_next
theorem k__law_next : chkB bts N__law_next (defScope s__law_next) 60 (defBody s__law_next) c__law_next = true := by decide +kernel
theorem sc__law_next : FnScope N__law_next ["stream", "many"] (defScope s__law_next) := ⟨rfl, rfl, rfl, by decide +kernel, rfl, by decide +kernel, by decide +kernel⟩
abbrev s__law_shuffled : Stmt := top 27
abbrev N__law_shuffled : List Str := P.N__law_shuffled_v2
abbrev c__law_shuffled : List CS := P.c__law_shuffled_v2
theorem k__law_shuffled : chkB bts N__law_shuffled (defScope s__law_shuffled) 60 (defBody s__law_shuffled) c__law_shuffled = true := by decide +kernel
theorem sc__law_shuffled : FnScope N__law_shuffled ["stream", "many"] (defScope s__law_shuffled) := ⟨rfl, rfl, rfl, by decide +kernel, rfl, by decide +kernel, by decide +kernel⟩
abbrev s__law_all_pairs : Stmt := top 29
abbrev N__law_all_pairs : List Str := P.N__law_all_pairs
abbrev c__law_all_pairs : List CS := P.c__law_all_pairs
theorem k__law_all_pairs : chkB bts N__law_all_pairs (defScope s__law_all_pairs) 60 (defBody s__law_all_pairs) c__law_all_pairs = true := by decide +kernel
theorem sc__law_all_pairs : FnScope N__law_all_pairs ["points"] (defScope s__law_all_pairs) := ⟨rfl, rfl, rfl, by decide +kernel, rfl, by decide +kernel, by decide +kernel⟩
abbrev s__law_pair : Stmt := top 28
abbrev N__law_pair : List Str := P.N__law_pair
abbrev c__law_pair : List CS := P.c__law_pair
theorem k__law_pair : chkB bts N__law_pair (defScope s__law_pair) 60 (defBody s__law_pair) c__law_pair = true := by decide +kernel
theorem sc__law_pair : FnScope N__law_pair ["one", "other"] (defScope s__law_pair) := ⟨rfl, rfl, rfl, by decide +kernel, rfl, by decide +kernel, by decide +kernel⟩
abbrev s__law_ring : Stmt := top 30
abbrev N__law_ring : List Str := P.N__law_ring
abbrev c__law_ring : List CS := P.c__law_ring
theorem k__law_ring : chkB bts N__law_ring (defScope s__law_ring) 60 (defBody s__law_ring) c__law_ring = true := by decide +kernel
theorem sc__law_ring : FnScope N__law_ring ["points"] (defScope s__law_ring) := ⟨rfl, rfl, rfl, by decide +kernel, rfl, by decide +kernel, by decide +kernel⟩
abbrev s__law_shape : Stmt := top 31
abbrev N__law_shape : List Str := P.N__law_shape
abbrev c__law_shape : List CS := P.c__law_shape
theorem k__law_shape : chkB bts N__law_shape (defScope s__law_shape) 60 (defBody s__law_shape) c__law_shape = true := by decide +kernel
theorem sc__law_shape : FnScope N__law_shape ["stream"] (defScope s__law_shape) := ⟨rfl, rfl, rfl, by decide +kernel, rfl, by decide +kernel, by decide +kernel⟩
abbrev s__law_apart : Stmt := top 32
abbrev N__law_apart : List Str := P.N__law_apart
abbrev c__law_apart : List CS := P.c__law_apart
theorem k__law_apart : chkB bts N__law_apart (defScope s__law_apart) 60 (defBody s__law_apart) c__law_apart = true := by decide +kernel
theorem sc__law_apart : FnScope N__law_apart ["one", "other"] (defScope s__law_apart) := ⟨rfl, rfl, rfl, by decide +kernel, rfl, by decide +kernel, by decide +kernel⟩
abbrev s__law_three_apart : Stmt := top 34
abbrev N__law_three_apart : List Str := P.N__law_three_apart
abbrev c__law_three_apart : List CS := P.c__law_three_apart
theorem k__law_three_apart : chkB bts N__law_three_apart (defScope s__law_three_apart) 60 (defBody s__law_three_apart) c__law_three_apart = true := by decide +kernel
theorem sc__law_three_apart : FnScope N__law_three_apart ["shape"] (defScope s__law_three_apart) := ⟨rfl, rfl, rfl, by decide +kernel, rfl, by decide +kernel, by decide +kernel⟩
abbrev s__law_choices : Stmt := top 33
abbrev N__law_choices : List Str := P.N__law_choices
abbrev c__law_choices : List CS := P.c__law_choices
theorem k__law_choices : chkB bts N__law_choices (defScope s__law_choices) 60 (defBody s__law_choices) c__law_choices = true := by decide +kernel
theorem sc__law_choices : FnScope N__law_choices ["items", "many"] (defScope s__law_choices) := ⟨rfl, rfl, rfl, by decide +kernel, rfl, by decide +kernel, by decide +kernel⟩
abbrev s__law_triangles : Stmt := top 35
abbrev N__law_triangles : List Str := P.N__law_triangles
abbrev c__law_triangles : List CS := P.c__law_triangles
theorem k__law_triangles : chkB bts N__law_triangles (defScope s__law_triangles) 60 (defBody s__law_triangles) c__law_triangles = true := by decide +kernel
theorem sc__law_triangles : FnScope N__law_triangles ["shape"] (defScope s__law_triangles) := ⟨rfl, rfl, rfl, by decide +kernel, rfl, by decide +kernel, by decide +kernel⟩
abbrev s__law_bad : Stmt := top 36
abbrev N__law_bad : List Str := P.N__law_bad
abbrev c__law_bad : List CS := P.c__law_bad
theorem k__law_bad : chkB bts N__law_bad (defScope s__law_bad) 60 (defBody s__law_bad) c__law_bad = true := by decide +kernel
theorem sc__law_bad : FnScope N__law_bad ["shape"] (defScope s__law_bad) := ⟨rfl, rfl, rfl, by decide +kernel, rfl, by decide +kernel, by decide +kernel⟩
abbrev s_is_tuple : Stmt := top 8
abbrev N_is_tuple : List Str := P.N_is_tuple
abbrev c_is_tuple : List CS := P.c_is_tuple
theorem k_is_tuple : chkB bts N_is_tuple (defScope s_is_tuple) 60 (defBody s_is_tuple) c_is_tuple = true := by decide +kernel
theorem sc_is_tuple : FnScope N_is_tuple ["value", "least", "most"] (defScope s_is_tuple) := ⟨rfl, rfl, rfl, by decide +kernel, rfl, by decide +kernel, by decide +kernel⟩
abbrev s_is_within : Stmt := top 7
abbrev N_is_within : List Str := P.N_is_within
abbrev c_is_within : List CS := P.c_is_within
theorem k_is_within : chkB bts N_is_within (defScope s_is_within) 60 (defBody s_is_within) c_is_within = true := by decide +kernel
theorem sc_is_within : FnScope N_is_within ["value", "least", "most"] (defScope s_is_within) := ⟨rfl, rfl, rfl, by decide +kernel, rfl, by decide +kernel, by decide +kernel⟩
abbrev s_is_pair : Stmt := top 10
abbrev N_is_pair : List Str := P.N_is_pair
abbrev c_is_pair : List CS := P.c_is_pair
theorem k_is_pair : chkB bts N_is_pair (defScope s_is_pair) 60 (defBody s_is_pair) c_is_pair = true := by decide +kernel
theorem sc_is_pair : FnScope N_is_pair ["value", "points"] (defScope s_is_pair) := ⟨rfl, rfl, rfl, by decide +kernel, rfl, by decide +kernel, by decide +kernel⟩
abbrev s_is_ascending : Stmt := top 9
abbrev N_is_ascending : List Str := P.N_is_ascending
abbrev c_is_ascending : List CS := P.c_is_ascending
theorem k_is_ascending : chkB bts N_is_ascending (defScope s_is_ascending) 60 (defBody s_is_ascending) c_is_ascending = true := by decide +kernel
theorem sc_is_ascending : FnScope N_is_ascending ["items"] (defScope s_is_ascending) := ⟨rfl, rfl, rfl, by decide +kernel, rfl, by decide +kernel, by decide +kernel⟩
abbrev s_is_shape : Stmt := top 19
abbrev N_is_shape : List Str := P.N_is_shape
abbrev c_is_shape : List CS := P.c_is_shape
theorem k_is_shape : chkB bts N_is_shape (defScope s_is_shape) 60 (defBody s_is_shape) c_is_shape = true := by decide +kernel
theorem sc_is_shape : FnScope N_is_shape ["value"] (defScope s_is_shape) := ⟨rfl, rfl, rfl, by decide +kernel, rfl, by decide +kernel, by decide +kernel⟩
abbrev s_need_shape : Stmt := top 13
abbrev N_need_shape : List Str := P.N_need_shape
abbrev c_need_shape : List CS := P.c_need_shape
theorem k_need_shape : chkB bts N_need_shape (defScope s_need_shape) 60 (defBody s_need_shape) c_need_shape = true := by decide +kernel
theorem sc_need_shape : FnScope N_need_shape ["shape"] (defScope s_need_shape) := ⟨rfl, rfl, rfl, by decide +kernel, rfl, by decide +kernel, by decide +kernel⟩
abbrev s_many_points : Stmt := top 14
abbrev N_many_points : List Str := P.N_many_points
abbrev c_many_points : List CS := P.c_many_points
theorem k_many_points : chkB bts N_many_points (defScope s_many_points) 60 (defBody s_many_points) c_many_points = true := by decide +kernel
theorem sc_many_points : FnScope N_many_points ["pairs"] (defScope s_many_points) := ⟨rfl, rfl, rfl, by decide +kernel, rfl, by decide +kernel, by decide +kernel⟩
abbrev s_are_triangle : Stmt := top 16
abbrev N_are_triangle : List Str := P.N_are_triangle
abbrev c_are_triangle : List CS := P.c_are_triangle
theorem k_are_triangle : chkB bts N_are_triangle (defScope s_are_triangle) 60 (defBody s_are_triangle) c_are_triangle = true := by decide +kernel
theorem sc_are_triangle : FnScope N_are_triangle ["pairs"] (defScope s_are_triangle) := ⟨rfl, rfl, rfl, by decide +kernel, rfl, by decide +kernel, by decide +kernel⟩
abbrev s_triangles : Stmt := top 18
abbrev N_triangles : List Str := P.N_triangles
abbrev c_triangles : List CS := P.c_triangles
theorem k_triangles : chkB bts N_triangles (defScope s_triangles) 60 (defBody s_triangles) c_triangles = true := by decide +kernel
theorem sc_triangles : FnScope N_triangles ["shape"] (defScope s_triangles) := ⟨rfl, rfl, rfl, by decide +kernel, rfl, by decide +kernel, by decide +kernel⟩
abbrev s_are_apart : Stmt := top 15
abbrev N_are_apart : List Str := P.N_are_apart
abbrev c_are_apart : List CS := P.c_are_apart
theorem k_are_apart : chkB bts N_are_apart (defScope s_are_apart) 60 (defBody s_are_apart) c_are_apart = true := by decide +kernel
theorem sc_are_apart : FnScope N_are_apart ["pairs"] (defScope s_are_apart) := ⟨rfl, rfl, rfl, by decide +kernel, rfl, by decide +kernel, by decide +kernel⟩
abbrev s_threes_apart : Stmt := top 17
abbrev N_threes_apart : List Str := P.N_threes_apart
abbrev c_threes_apart : List CS := P.c_threes_apart
theorem k_threes_apart : chkB bts N_threes_apart (defScope s_threes_apart) 60 (defBody s_threes_apart) c_threes_apart = true := by decide +kernel
theorem sc_threes_apart : FnScope N_threes_apart ["shape"] (defScope s_threes_apart) := ⟨rfl, rfl, rfl, by decide +kernel, rfl, by decide +kernel, by decide +kernel⟩
abbrev s_is_enough : Stmt := top 20
abbrev N_is_enough : List Str := P.N_is_enough
abbrev c_is_enough : List CS := P.c_is_enough
theorem k_is_enough : chkB bts N_is_enough (defScope s_is_enough) 60 (defBody s_is_enough) c_is_enough = true := by decide +kernel
theorem sc_is_enough : FnScope N_is_enough ["shape"] (defScope s_is_enough) := ⟨rfl, rfl, rfl, by decide +kernel, rfl, by decide +kernel, by decide +kernel⟩
abbrev s_may_join : Stmt := top 21
abbrev N_may_join : List Str := P.N_may_join
abbrev c_may_join : List CS := P.c_may_join
theorem k_may_join : chkB bts N_may_join (defScope s_may_join) 60 (defBody s_may_join) c_may_join = true := by decide +kernel
theorem sc_may_join : FnScope N_may_join ["shape", "points"] (defScope s_may_join) := ⟨rfl, rfl, rfl, by decide +kernel, rfl, by decide +kernel, by decide +kernel⟩
abbrev s__law_is_integer : Stmt := top 25
abbrev N__law_is_integer : List Str := P.N__law_is_integer
abbrev c__law_is_integer : List CS := P.c__law_is_integer
theorem k__law_is_integer : chkB bts N__law_is_integer (defScope s__law_is_integer) 60 (defBody s__law_is_integer) c__law_is_integer = true := by decide +kernel
theorem sc__law_is_integer : FnScope N__law_is_integer ["actual"] (defScope s__law_is_integer) := ⟨rfl, rfl, rfl, by decide +kernel, rfl, by decide +kernel, by decide +kernel⟩
abbrev s__law_equal : Stmt := top 26
abbrev N__law_equal : List Str := P.N__law_equal
abbrev c__law_equal : List CS := P.c__law_equal
theorem k__law_equal : chkB bts N__law_equal (defScope s__law_equal) 60 (defBody s__law_equal) c__law_equal = true := by decide +kernel
theorem sc__law_equal : FnScope N__law_equal ["actual", "due"] (defScope s__law_equal) := ⟨rfl, rfl, rfl, by decide +kernel, rfl, by decide +kernel, by decide +kernel⟩
abbrev s_law : Stmt := top 37
abbrev N_law : List Str := ["script", "stream", "turn", "shape", "points", "due", "pair", "more", "told", "eleven"]
def c_law : List CS := [
  .for_ (.nm 2) (.rng1 (.int 3)) [.asg (.nm 3) (.call "_law_shape" [(.var 1)]), .ife (.cmp .eq (.call "_law_next" [(.var 1), (.int 4)]) (.int 0)) [.asg (.nm 3) (.bi .tuple [(.comp (.var 6) (.nm 6) (.seq (.var 3)) (some (.cmp .lt (.idx (.var 6) (.int 1)) (.int 4))) [("pair", 6)])])] [], .asg (.nm 4) (.bin .add (.int 2) (.call "_law_next" [(.var 1), (.int 6)])), .asgO 5 (.lst []), .for_ (.nm 6) (.seq (.call "_law_all_pairs" [(.var 4)])) [.asg (.nm 7) (.bi .tuple [(.bi .sorted [(.bin .add (.var 3) (.tup [(.var 6)]))])]), .ife (.and (.cmp .nmem (.var 6) (.var 3)) (.and (.cmp .lt (.bi .len [(.var 3)]) (.int 10)) (.cmp .eq (.call "_law_bad" [(.var 7)]) (.lst [])))) [.app 5 (.var 6)] []], .asg (.nm 8) (.call "may_join" [(.var 3), (.var 4)]), .ife (.not (.call "_law_equal" [(.var 8), (.bi .tuple [(.var 5)])])) [.ret (.bl false)] [], .ife (.not (.bi .all [(.comp (.cmp .isB (.call "is_enough" [(.bi .tuple [(.bi .sorted [(.bin .add (.var 3) (.tup [(.var 6)]))])])]) (.bl true)) (.nm 6) (.seq (.var 8)) none [("pair", 6)])])) [.ret (.bl false)] []],
  .ife (.cmp .ne (.call "may_join" [(.bi .tuple [(.call "_law_all_pairs" [(.int 5)])]), (.bin .add (.int 2) (.call "_law_next" [(.var 1), (.int 6)]))]) (.tup [])) [.ret (.bl false)] [],
  .asgO 9 (.comp (.var 6) (.nm 6) (.seq (.call "_law_all_pairs" [(.int 7)])) (some (.cmp .lt (.idx (.var 6) (.int 0)) (.int 2))) [("pair", 6)]),
  .popx 9 (.call "_law_next" [(.var 1), (.int 11)]),
  .ret (.and (.cmp .isB (.call "is_enough" [(.bi .tuple [(.var 9)])]) (.bl true)) (.cmp .eq (.call "may_join" [(.bi .tuple [(.var 9)]), (.int 7)]) (.tup [])))]
theorem k_law : chkB bts N_law (defScope s_law) 60 ((defBody s_law).drop 1) c_law = true := by decide +kernel
theorem sc_law : FnScope N_law ["script"] (defScope s_law) := ⟨rfl, rfl, rfl, by decide +kernel, rfl, by decide +kernel, by decide +kernel⟩
end K25

namespace K25
open PySem PySem.Spec L2 Ws

structure Tk (T : Tbl) : Prop where
  nx : ∃ φ, T.fn "_law_next" = some (2, φ) ∧ NextOk φ
  sh : ∃ φ, T.fn "_law_shape" = some (1, φ) ∧ ShapeDOk φ
  al : ∃ φ, T.fn "_law_all_pairs" = some (1, φ) ∧ AllPOk φ
  bd : ∃ φ, T.fn "_law_bad" = some (1, φ) ∧ LBadOk φ
  mj : ∃ φ, T.fn "may_join" = some (2, φ) ∧ MayJoinOk φ
  eq : ∃ φ, T.fn "_law_equal" = some (2, φ) ∧ EqSelfOk 2 φ
  en : ∃ φ, T.fn "is_enough" = some (1, φ) ∧ EnoughOk φ
theorem prs_dp : ∀ f : Sh, PV.dps (f.map pairV) ≤ 1
  | [] => by rw [List.map_nil, PV.dps]; decide
  | x :: f => by
    have := prs_dp f
    rw [List.map_cons, PV.dps]
    have : (pairV x).dp = 1 := by simp [pairV, PV.dp, PV.dps]
    omega
theorem prs_szs : ∀ f : Sh, PV.szs (f.map pairV) = true
  | [] => rfl
  | x :: f => by
    rw [List.map_cons, PV.szs, prs_szs f]
    have : (pairV x).sz = true := by simp [pairV, PV.sz, PV.szs]
    rw [this]; rfl
theorem shV_dp (f : Sh) : (shV f).dp ≤ 2 := by
  have := prs_dp f
  show (PV.tup (f.map pairV)).dp ≤ 2
  rw [PV.dp]; omega
theorem shV_sz {f : Sh} (h : f.length ≤ 1000) : (shV f).sz = true := by
  show (PV.tup (f.map pairV)).sz = true
  rw [PV.sz, prs_szs, decide_eq_true (by rw [List.length_map]; exact h)]; rfl
def dueP (sh : Sh) (p : Int × Int) : Bool := !decide (p ∈ sh) && (decide (sh.length < 10) && enB (insS sh p))
theorem due_join {n : Int} {sh : Sh} (h10 : sh.length ≤ 10) : (pairsL n).filter (dueP sh) = joinS n sh := by
  unfold joinS dueP
  by_cases h : sh.length = 10
  · rw [if_pos h]
    refine List.filter_eq_nil_iff.mpr fun p _ => ?_
    rw [decide_eq_false (show ¬ sh.length < 10 by omega)]
    simp
  · rw [if_neg h, List.filter_filter]
    refine List.filter_congr fun p _ => ?_
    rw [decide_eq_true (show sh.length < 10 by omega), Bool.true_and, Bool.and_comm]
theorem join_in {n : Int} {sh : Sh} {p : Int × Int} (h : p ∈ joinS n sh) : sh.length ≠ 10 ∧ p ∈ pairsL n ∧ p ∉ sh ∧ enB (insS sh p) = true := by
  unfold joinS at h
  split at h
  · cases h
  rename_i hl
  obtain ⟨h1, h2⟩ := List.mem_filter.mp h
  obtain ⟨h3, h4⟩ := List.mem_filter.mp h1
  exact ⟨hl, h3, by simpa using h4, h2⟩
theorem join_len {n : Int} (h2 : 2 ≤ n) (h7 : n ≤ 7) {sh : Sh} : (joinS n sh).length ≤ 21 := by
  have := (pl_facts2 h2 h7).1
  unfold joinS
  split
  · decide
  · exact Nat.le_trans (List.length_filter_le _ _) (Nat.le_trans (List.length_filter_le _ _) this)
abbrev ev (x2 x3 x4 x5 x6 x7 x8 x9 : Option PV) : Ws.Env := [none, some .stm, x2, x3, x4, x5, x6, x7, x8, x9]
abbrev Z1 : CS := .asg (.nm 3) (.call "_law_shape" [(.var 1)])
abbrev Z2a : CS := .asg (.nm 3) (.bi .tuple [(.comp (.var 6) (.nm 6) (.seq (.var 3)) (some (.cmp .lt (.idx (.var 6) (.int 1)) (.int 4))) [("pair", 6)])])
abbrev Z2 : CS := .ife (.cmp .eq (.call "_law_next" [(.var 1), (.int 4)]) (.int 0)) [Z2a] []
abbrev Z3 : CS := .asg (.nm 4) (.bin .add (.int 2) (.call "_law_next" [(.var 1), (.int 6)]))
abbrev Z4 : CS := .asgO 5 (.lst [])
abbrev U1 : CS := .asg (.nm 7) (.bi .tuple [(.bi .sorted [(.bin .add (.var 3) (.tup [(.var 6)]))])])
abbrev UC : CE := .and (.cmp .nmem (.var 6) (.var 3)) (.and (.cmp .lt (.bi .len [(.var 3)]) (.int 10)) (.cmp .eq (.call "_law_bad" [(.var 7)]) (.lst [])))
abbrev U2 : CS := .ife UC [.app 5 (.var 6)] []
abbrev Z5 : CS := .for_ (.nm 6) (.seq (.call "_law_all_pairs" [(.var 4)])) [U1, U2]
abbrev Z6 : CS := .asg (.nm 8) (.call "may_join" [(.var 3), (.var 4)])
abbrev Z7 : CS := .ife (.not (.call "_law_equal" [(.var 8), (.bi .tuple [(.var 5)])])) [.ret (.bl false)] []
abbrev Z8c : CE := .cmp .isB (.call "is_enough" [(.bi .tuple [(.bi .sorted [(.bin .add (.var 3) (.tup [(.var 6)]))])])]) (.bl true)
abbrev Z8 : CS := .ife (.not (.bi .all [(.comp Z8c (.nm 6) (.seq (.var 8)) none [("pair", 6)])])) [.ret (.bl false)] []
abbrev TB : List CS := [Z1, Z2, Z3, Z4, Z5, Z6, Z7, Z8]
section
variable {T : Tbl} {S : Strm} {n : Int} {sh F J : Sh} {p : Int × Int} {x2 x3 x4 x5 x6 x7 x8 x9 : Option PV}
theorem addP {sh : Sh} (h10 : sh.length ≤ 10) : binV .add (shV sh) (.tup [pairV p]) = some (.tup ((sh ++ [p]).map pairV)) := by
  show binV .add (.tup (sh.map pairV)) (.tup [pairV p]) = _
  rw [add_tup, if_pos (by rw [List.length_map]; show sh.length + 1 ≤ LIM; unfold LIM; omega), List.map_append]; rfl
theorem u1 (h10 : sh.length ≤ 10) : evS T 58 U1 (ev x2 (some (shV sh)) x4 x5 (some (pairV p)) x7 x8 x9) S = some (.nx (ev x2 (some (shV sh)) x4 x5 (some (pairV p)) (some (shV (insS sh p))) x8 x9), S) := by
  have ad := addP (p := p) h10
  have ss := srt_sh (l := sh ++ [p])
  have po : (pairV p).isOwn = false := rfl
  have L1 : decide (1 ≤ LIM) = true := by decide
  have fin : PV.tup ((isort le2 (sh ++ [p])).map pairV) = shV (insS sh p) := rfl
  have xo : (shV (insS sh p)).isOwn = false := rfl
  unfold ev
  generalize (isort le2 (sh ++ [p])).map pairV = R at *
  generalize (sh ++ [p]).map pairV = Q at *
  generalize shV (insS sh p) = X at *
  generalize shV sh = V at *
  generalize pairV p = pd at *
  simp only [evF_end, end_nx, end_rt, FU, e_non, e_bl, e_int, e_str, e_ty, e_var, getV_some, e_glo, e_tup, e_lst, e_bin, e_neg, negV_int, e_not, e_and, e_or, andV_bl, orV_bl, and_pure, or_pure, e_cmp, e_chain, e_ite, e_idx, e_sli, e_gcd, e_sset, gcdV_int, e_call, callR_ret, e_bi, e_comp, l_nil, l_cons, s_nil, s_cons, then_nx, then_rt, turn_eq, ife_t, ife_f, ifeG_eq, c_asg, c_ret, c_retO, c_exp, c_ife, c_for, c_asgO, c_app, c_sset, g0, gS, st0, stS, thaw_tup, thaw_lst, thaw_own, thaw_int, thaw_bl, thaw_str, thaw_non, thaw_stm, own_tup, own_lst, own_own, own_int, own_bl, own_str, own_non, own_ty, own_stm, tru_bl, tru_int, seq_tup, seq_lst, seq_own, lst_lst, lst_own, add_int, sub_int, eq_int, ne_int, lt_int', le_int', gt_int', ge_int', ne_bl, eq_bl, idx_tup, idx_lst, idx_own, len_1, all_1, any_1, sum_1, tuple_1, list_1, sorted_1, int_1, abs_1, type_1, bind_nm, bind_tp, bind_ns, bind_tpl, min1_1, max1_1, mind_1, min2_1, max2_1, it_enum, enumB_lst, c_par, it_seq, it_rng1, it_rng2, rngA_int, rngB_int, it_zip, zip_tup, zip_lst, par_none, par_some, parB_int, sli_tup, sli_lst, step_none, step_some, wipe_nil, wipe_cons, List.map_cons, List.map_nil, List.length_cons, len_nil, List.all_cons, List.all_nil, List.replicate, List.cons_append, List.nil_append, List.append_nil, List.zip_cons_cons, List.zip_nil_right, List.foldl_cons, List.foldl_nil, eq_self, Option.bind_some, Option.map_some, Bool.not_false, Bool.not_true, Bool.true_and, Bool.and_true, Bool.false_and, Bool.and_false, Bool.or_true, Bool.true_or, Bool.or_false, Bool.false_or, if_true, Bool.false_eq_true, if_false, Nat.sub_self, Nat.reduceAdd, Nat.reduceSub, Nat.reduceEqDiff, ite_true, ite_false, Nat.reduceLeDiff, ad, ss, po, L1, fin, xo]
theorem ucond (H : Tk T) (g : GoodSh sh) (pin : PIn p) : evE T FU UC (ev x2 (some (shV sh)) x4 x5 (some (pairV p)) (some (shV (insS sh p))) x8 x9) S = some (.bl (dueP sh p), S) := by
  obtain ⟨φ, e, h⟩ := H.bd
  have nm := nmem_sh (q := p) (A := sh)
  have h10 := g.len
  unfold dueP
  by_cases hp : p ∈ sh
  · rw [decide_eq_true hp] at nm ⊢
    unfold ev
    generalize shV (insS sh p) = X at *
    generalize shV sh = V at *
    generalize pairV p = pd at *
    simp only [evF_end, end_nx, end_rt, FU, e_non, e_bl, e_int, e_str, e_ty, e_var, getV_some, e_glo, e_tup, e_lst, e_bin, e_neg, negV_int, e_not, e_and, e_or, andV_bl, orV_bl, and_pure, or_pure, e_cmp, e_chain, e_ite, e_idx, e_sli, e_gcd, e_sset, gcdV_int, e_call, callR_ret, e_bi, e_comp, l_nil, l_cons, s_nil, s_cons, then_nx, then_rt, turn_eq, ife_t, ife_f, ifeG_eq, c_asg, c_ret, c_retO, c_exp, c_ife, c_for, c_asgO, c_app, c_sset, g0, gS, st0, stS, thaw_tup, thaw_lst, thaw_own, thaw_int, thaw_bl, thaw_str, thaw_non, thaw_stm, own_tup, own_lst, own_own, own_int, own_bl, own_str, own_non, own_ty, own_stm, tru_bl, tru_int, seq_tup, seq_lst, seq_own, lst_lst, lst_own, add_int, sub_int, eq_int, ne_int, lt_int', le_int', gt_int', ge_int', ne_bl, eq_bl, idx_tup, idx_lst, idx_own, len_1, all_1, any_1, sum_1, tuple_1, list_1, sorted_1, int_1, abs_1, type_1, bind_nm, bind_tp, bind_ns, bind_tpl, min1_1, max1_1, mind_1, min2_1, max2_1, it_enum, enumB_lst, c_par, it_seq, it_rng1, it_rng2, rngA_int, rngB_int, it_zip, zip_tup, zip_lst, par_none, par_some, parB_int, sli_tup, sli_lst, step_none, step_some, wipe_nil, wipe_cons, List.map_cons, List.map_nil, List.length_cons, len_nil, List.all_cons, List.all_nil, List.replicate, List.cons_append, List.nil_append, List.append_nil, List.zip_cons_cons, List.zip_nil_right, List.foldl_cons, List.foldl_nil, eq_self, Option.bind_some, Option.map_some, Bool.not_false, Bool.not_true, Bool.true_and, Bool.and_true, Bool.false_and, Bool.and_false, Bool.or_true, Bool.true_or, Bool.or_false, Bool.false_or, if_true, Bool.false_eq_true, if_false, Nat.sub_self, Nat.reduceAdd, Nat.reduceSub, Nat.reduceEqDiff, ite_true, ite_false, Nat.reduceLeDiff, nm]
  · rw [decide_eq_false hp] at nm ⊢
    obtain ⟨m, hm⟩ : ∃ m : Int, m = sh.length := ⟨_, rfl⟩
    have ll : (((sh.map pairV).length : Nat) : Int) = m := by rw [List.length_map, hm]
    have sq : (shV sh).seq? = some (sh.map pairV) := rfl
    by_cases hl : sh.length < 10
    · have dm : decide (m < 10) = true := decide_eq_true (by omega)
      have gi := ins_good g hl pin hp
      have a := h (insS sh p) S gi.len
      have bn := bad_nil (sh := insS sh p)
      rw [en_bad gi] at bn
      rw [decide_eq_true hl]
      have l0 : decide (0 ≤ LIM) = true := by decide
      have xo : (shV (insS sh p)).isOwn = false := rfl
      have xt : (shV (insS sh p)).thaw = shV (insS sh p) := rfl
      clear hm hl
      unfold ev
      generalize badV (insS sh p) = B at *
      generalize enB (insS sh p) = b at *
      generalize shV (insS sh p) = X at *
      generalize sh.map pairV = L at *
      generalize shV sh = V at *
      generalize pairV p = pd at *
      simp only [evF_end, end_nx, end_rt, FU, e_non, e_bl, e_int, e_str, e_ty, e_var, getV_some, e_glo, e_tup, e_lst, e_bin, e_neg, negV_int, e_not, e_and, e_or, andV_bl, orV_bl, and_pure, or_pure, e_cmp, e_chain, e_ite, e_idx, e_sli, e_gcd, e_sset, gcdV_int, e_call, callR_ret, e_bi, e_comp, l_nil, l_cons, s_nil, s_cons, then_nx, then_rt, turn_eq, ife_t, ife_f, ifeG_eq, c_asg, c_ret, c_retO, c_exp, c_ife, c_for, c_asgO, c_app, c_sset, g0, gS, st0, stS, thaw_tup, thaw_lst, thaw_own, thaw_int, thaw_bl, thaw_str, thaw_non, thaw_stm, own_tup, own_lst, own_own, own_int, own_bl, own_str, own_non, own_ty, own_stm, tru_bl, tru_int, seq_tup, seq_lst, seq_own, lst_lst, lst_own, add_int, sub_int, eq_int, ne_int, lt_int', le_int', gt_int', ge_int', ne_bl, eq_bl, idx_tup, idx_lst, idx_own, len_1, all_1, any_1, sum_1, tuple_1, list_1, sorted_1, int_1, abs_1, type_1, bind_nm, bind_tp, bind_ns, bind_tpl, min1_1, max1_1, mind_1, min2_1, max2_1, it_enum, enumB_lst, c_par, it_seq, it_rng1, it_rng2, rngA_int, rngB_int, it_zip, zip_tup, zip_lst, par_none, par_some, parB_int, sli_tup, sli_lst, step_none, step_some, wipe_nil, wipe_cons, List.map_cons, List.map_nil, List.length_cons, len_nil, List.all_cons, List.all_nil, List.replicate, List.cons_append, List.nil_append, List.append_nil, List.zip_cons_cons, List.zip_nil_right, List.foldl_cons, List.foldl_nil, eq_self, Option.bind_some, Option.map_some, Bool.not_false, Bool.not_true, Bool.true_and, Bool.and_true, Bool.false_and, Bool.and_false, Bool.or_true, Bool.true_or, Bool.or_false, Bool.false_or, if_true, Bool.false_eq_true, if_false, Nat.sub_self, Nat.reduceAdd, Nat.reduceSub, Nat.reduceEqDiff, ite_true, ite_false, Nat.reduceLeDiff, nm, sq, ll, dm, e, a, bn, l0, xo, xt]
    · have dm : decide (m < 10) = false := decide_eq_false (by omega)
      rw [decide_eq_false hl]
      clear hm hl
      unfold ev
      generalize shV (insS sh p) = X at *
      generalize sh.map pairV = L at *
      generalize shV sh = V at *
      generalize pairV p = pd at *
      simp only [evF_end, end_nx, end_rt, FU, e_non, e_bl, e_int, e_str, e_ty, e_var, getV_some, e_glo, e_tup, e_lst, e_bin, e_neg, negV_int, e_not, e_and, e_or, andV_bl, orV_bl, and_pure, or_pure, e_cmp, e_chain, e_ite, e_idx, e_sli, e_gcd, e_sset, gcdV_int, e_call, callR_ret, e_bi, e_comp, l_nil, l_cons, s_nil, s_cons, then_nx, then_rt, turn_eq, ife_t, ife_f, ifeG_eq, c_asg, c_ret, c_retO, c_exp, c_ife, c_for, c_asgO, c_app, c_sset, g0, gS, st0, stS, thaw_tup, thaw_lst, thaw_own, thaw_int, thaw_bl, thaw_str, thaw_non, thaw_stm, own_tup, own_lst, own_own, own_int, own_bl, own_str, own_non, own_ty, own_stm, tru_bl, tru_int, seq_tup, seq_lst, seq_own, lst_lst, lst_own, add_int, sub_int, eq_int, ne_int, lt_int', le_int', gt_int', ge_int', ne_bl, eq_bl, idx_tup, idx_lst, idx_own, len_1, all_1, any_1, sum_1, tuple_1, list_1, sorted_1, int_1, abs_1, type_1, bind_nm, bind_tp, bind_ns, bind_tpl, min1_1, max1_1, mind_1, min2_1, max2_1, it_enum, enumB_lst, c_par, it_seq, it_rng1, it_rng2, rngA_int, rngB_int, it_zip, zip_tup, zip_lst, par_none, par_some, parB_int, sli_tup, sli_lst, step_none, step_some, wipe_nil, wipe_cons, List.map_cons, List.map_nil, List.length_cons, len_nil, List.all_cons, List.all_nil, List.replicate, List.cons_append, List.nil_append, List.append_nil, List.zip_cons_cons, List.zip_nil_right, List.foldl_cons, List.foldl_nil, eq_self, Option.bind_some, Option.map_some, Bool.not_false, Bool.not_true, Bool.true_and, Bool.and_true, Bool.false_and, Bool.and_false, Bool.or_true, Bool.true_or, Bool.or_false, Bool.false_or, if_true, Bool.false_eq_true, if_false, Nat.sub_self, Nat.reduceAdd, Nat.reduceSub, Nat.reduceEqDiff, ite_true, ite_false, Nat.reduceLeDiff, nm, sq, ll, dm]
theorem uturn (H : Tk T) (g : GoodSh sh) (pin : PIn p) (hF : F.length ≤ 100) : bodyF T 58 (.nm 6) [U1, U2] (pairV p) (ev x2 (some (shV sh)) x4 (some (.own (F.map pairV))) x6 x7 x8 x9) S = some (.nx (ev x2 (some (shV sh)) x4 (some (.own ((F ++ if dueP sh p then [p] else []).map pairV))) (some (pairV p)) (some (shV (insS sh p))) x8 x9), S) := by
  rw [body_eq]
  show (some (ev x2 (some (shV sh)) x4 (some (.own (F.map pairV))) (some (pairV p)) x7 x8 x9)).bind _ = _
  rw [Option.bind_some, seqn (ev := fun c env S => evS T 58 c env S) (u1 g.len), s_cons, c_ife, ucond H g pin, Option.bind_some]
  cases dueP sh p with
  | false =>
    rw [if_neg Bool.false_ne_true, List.append_nil]
    rfl
  | true =>
    rw [if_pos rfl]
    have ap : evS T 57 (.app 5 (.var 6)) (ev x2 (some (shV sh)) x4 (some (.own (F.map pairV))) (some (pairV p)) (some (shV (insS sh p))) x8 x9) S = some (.nx (ev x2 (some (shV sh)) x4 (some (.own ((F ++ [p]).map pairV))) (some (pairV p)) (some (shV (insS sh p))) x8 x9), S) := by
      rw [c_app]
      show (some (pairV p, S)).bind _ = _
      rw [Option.bind_some]
      show (some (F.map pairV)).bind _ = _
      rw [Option.bind_some]
      dsimp only
      rw [show (pairV p).isOwn = false from rfl, Bool.false_or, decide_eq_true (show (F.map pairV).length < LIM by rw [List.length_map]; unfold LIM; omega)]
      rw [List.map_append]
      rfl
    show ((seqL (fun c env S => evS T 57 c env S) [.app 5 (.var 6)] (ev x2 (some (shV sh)) x4 (some (.own (F.map pairV))) (some (pairV p)) (some (shV (insS sh p))) x8 x9) S).bind _) = _
    rw [seqn (ev := fun c env S => evS T 57 c env S) ap]
    rfl
theorem uturns (H : Tk T) (g : GoodSh sh) : ∀ (Q F : Sh) (x6 x7 : Option PV), (∀ p ∈ Q, PIn p) → F.length + Q.length ≤ 100 →
    ∃ y6 y7, forL (bodyF T 58 (.nm 6) [U1, U2]) (Q.map pairV) (ev x2 (some (shV sh)) x4 (some (.own (F.map pairV))) x6 x7 x8 x9) S = some (.nx (ev x2 (some (shV sh)) x4 (some (.own ((F ++ Q.filter (dueP sh)).map pairV))) y6 y7 x8 x9), S)
  | [], F, x6, x7, _, _ => ⟨x6, x7, by rw [List.filter_nil, List.append_nil]; rfl⟩
  | p :: Q, F, x6, x7, hin, hF => by
    rw [List.length_cons] at hF
    have w := uturn (T := T) (S := S) (F := F) (x2 := x2) (x4 := x4) (x6 := x6) (x7 := x7) (x8 := x8) (x9 := x9) H g (hin p List.mem_cons_self) (by omega)
    obtain ⟨y6, y7, ih⟩ := uturns H g Q (F ++ if dueP sh p then [p] else []) (some (pairV p)) (some (shV (insS sh p))) (fun q hq => hin q (List.mem_cons_of_mem _ hq)) (by
      rw [List.length_append]
      have : (if dueP sh p then [p] else []).length ≤ 1 := by split <;> simp
      omega)
    refine ⟨y6, y7, ?_⟩
    rw [List.map_cons, forL, w, Option.bind_some]
    dsimp only
    rw [ih, List.append_assoc]
    have : (if dueP sh p then [p] else []) ++ Q.filter (dueP sh) = (p :: Q).filter (dueP sh) := by
      rw [List.filter_cons]
      cases dueP sh p <;> rfl
    rw [this]
theorem t1 (H : Tk T) (hS : SOk S) : ∃ sh S', evS T 59 Z1 (ev x2 x3 x4 x5 x6 x7 x8 x9) S = some (.nx (ev x2 (some (shV sh)) x4 x5 x6 x7 x8 x9), S') ∧ GoodSh sh ∧ SOk S' := by
  obtain ⟨φ, e, h⟩ := H.sh
  obtain ⟨sh, S1, w, g, k⟩ := h S hS
  refine ⟨sh, S1, ?_, g, k⟩
  have xo : (shV sh).isOwn = false := rfl
  unfold ev
  generalize shV sh = V at *
  simp only [evF_end, end_nx, end_rt, FU, e_non, e_bl, e_int, e_str, e_ty, e_var, getV_some, e_glo, e_tup, e_lst, e_bin, e_neg, negV_int, e_not, e_and, e_or, andV_bl, orV_bl, and_pure, or_pure, e_cmp, e_chain, e_ite, e_idx, e_sli, e_gcd, e_sset, gcdV_int, e_call, callR_ret, e_bi, e_comp, l_nil, l_cons, s_nil, s_cons, then_nx, then_rt, turn_eq, ife_t, ife_f, ifeG_eq, c_asg, c_ret, c_retO, c_exp, c_ife, c_for, c_asgO, c_app, c_sset, g0, gS, st0, stS, thaw_tup, thaw_lst, thaw_own, thaw_int, thaw_bl, thaw_str, thaw_non, thaw_stm, own_tup, own_lst, own_own, own_int, own_bl, own_str, own_non, own_ty, own_stm, tru_bl, tru_int, seq_tup, seq_lst, seq_own, lst_lst, lst_own, add_int, sub_int, eq_int, ne_int, lt_int', le_int', gt_int', ge_int', ne_bl, eq_bl, idx_tup, idx_lst, idx_own, len_1, all_1, any_1, sum_1, tuple_1, list_1, sorted_1, int_1, abs_1, type_1, bind_nm, bind_tp, bind_ns, bind_tpl, min1_1, max1_1, mind_1, min2_1, max2_1, it_enum, enumB_lst, c_par, it_seq, it_rng1, it_rng2, rngA_int, rngB_int, it_zip, zip_tup, zip_lst, par_none, par_some, parB_int, sli_tup, sli_lst, step_none, step_some, wipe_nil, wipe_cons, List.map_cons, List.map_nil, List.length_cons, len_nil, List.all_cons, List.all_nil, List.replicate, List.cons_append, List.nil_append, List.append_nil, List.zip_cons_cons, List.zip_nil_right, List.foldl_cons, List.foldl_nil, eq_self, Option.bind_some, Option.map_some, Bool.not_false, Bool.not_true, Bool.true_and, Bool.and_true, Bool.false_and, Bool.and_false, Bool.or_true, Bool.true_or, Bool.or_false, Bool.false_or, if_true, Bool.false_eq_true, if_false, Nat.sub_self, Nat.reduceAdd, Nat.reduceSub, Nat.reduceEqDiff, ite_true, ite_false, Nat.reduceLeDiff, e, w, xo, isO hS]
theorem t2 (H : Tk T) (hS : SOk S) (g : GoodSh sh) : ∃ sh' S', evS T 59 Z2 (ev x2 (some (shV sh)) x4 x5 x6 x7 x8 x9) S = some (.nx (ev x2 (some (shV sh')) x4 x5 x6 x7 x8 x9), S') ∧ GoodSh sh' ∧ SOk S' := by
  obtain ⟨φ, e, h⟩ := H.nx
  obtain ⟨d, S1, n1, n2, n3, n4⟩ := h S 4 hS (by decide) (by decide)
  have c : evE T FU (.cmp .eq (.call "_law_next" [(.var 1), (.int 4)]) (.int 0)) (ev x2 (some (shV sh)) x4 x5 x6 x7 x8 x9) S = some (.bl (decide (d = 0)), S1) := by
    unfold ev
    generalize shV sh = V at *
    simp only [evF_end, end_nx, end_rt, FU, e_non, e_bl, e_int, e_str, e_ty, e_var, getV_some, e_glo, e_tup, e_lst, e_bin, e_neg, negV_int, e_not, e_and, e_or, andV_bl, orV_bl, and_pure, or_pure, e_cmp, e_chain, e_ite, e_idx, e_sli, e_gcd, e_sset, gcdV_int, e_call, callR_ret, e_bi, e_comp, l_nil, l_cons, s_nil, s_cons, then_nx, then_rt, turn_eq, ife_t, ife_f, ifeG_eq, c_asg, c_ret, c_retO, c_exp, c_ife, c_for, c_asgO, c_app, c_sset, g0, gS, st0, stS, thaw_tup, thaw_lst, thaw_own, thaw_int, thaw_bl, thaw_str, thaw_non, thaw_stm, own_tup, own_lst, own_own, own_int, own_bl, own_str, own_non, own_ty, own_stm, tru_bl, tru_int, seq_tup, seq_lst, seq_own, lst_lst, lst_own, add_int, sub_int, eq_int, ne_int, lt_int', le_int', gt_int', ge_int', ne_bl, eq_bl, idx_tup, idx_lst, idx_own, len_1, all_1, any_1, sum_1, tuple_1, list_1, sorted_1, int_1, abs_1, type_1, bind_nm, bind_tp, bind_ns, bind_tpl, min1_1, max1_1, mind_1, min2_1, max2_1, it_enum, enumB_lst, c_par, it_seq, it_rng1, it_rng2, rngA_int, rngB_int, it_zip, zip_tup, zip_lst, par_none, par_some, parB_int, sli_tup, sli_lst, step_none, step_some, wipe_nil, wipe_cons, List.map_cons, List.map_nil, List.length_cons, len_nil, List.all_cons, List.all_nil, List.replicate, List.cons_append, List.nil_append, List.append_nil, List.zip_cons_cons, List.zip_nil_right, List.foldl_cons, List.foldl_nil, eq_self, Option.bind_some, Option.map_some, Bool.not_false, Bool.not_true, Bool.true_and, Bool.and_true, Bool.false_and, Bool.and_false, Bool.or_true, Bool.true_or, Bool.or_false, Bool.false_or, if_true, Bool.false_eq_true, if_false, Nat.sub_self, Nat.reduceAdd, Nat.reduceSub, Nat.reduceEqDiff, ite_true, ite_false, Nat.reduceLeDiff, e, n1, callR_flat (x := .int d) rfl (isO hS)]
  by_cases hd : d = 0
  · refine ⟨sh.filter fun q => decide (q.2 < 4), S1, ?_, ⟨Nat.le_trans (List.length_filter_le _ _) g.len, fun q hq => g.inn q (List.mem_filter.mp hq).1, g.asc.filter _⟩, n4⟩
    have cc : compL (stepV (fun e env S => evE T 58 e env S) (.var 6) (.nm 6) (some (.cmp .lt (.idx (.var 6) (.int 1)) (.int 4))) (ev x2 (some (shV sh)) x4 x5 none x7 x8 x9)) (sh.map pairV) S1 = some ((sh.filter fun q => decide (q.2 < 4)).map pairV, S1) := by
      refine compL_fil fun q hq => ?_
      have i1 : ∀ S, idxS S (pairV q) (.int 1) = some (.int q.2) := fun _ => rfl
      have po : (pairV q).isOwn = false := rfl
      unfold ev
      generalize pairV q = pd at *
      generalize shV sh = V at *
      simp only [evF_end, end_nx, end_rt, FU, e_non, e_bl, e_int, e_str, e_ty, e_var, getV_some, e_glo, e_tup, e_lst, e_bin, e_neg, negV_int, e_not, e_and, e_or, andV_bl, orV_bl, and_pure, or_pure, e_cmp, e_chain, e_ite, e_idx, e_sli, e_gcd, e_sset, gcdV_int, e_call, callR_ret, e_bi, e_comp, l_nil, l_cons, s_nil, s_cons, then_nx, then_rt, turn_eq, ife_t, ife_f, ifeG_eq, c_asg, c_ret, c_retO, c_exp, c_ife, c_for, c_asgO, c_app, c_sset, g0, gS, st0, stS, thaw_tup, thaw_lst, thaw_own, thaw_int, thaw_bl, thaw_str, thaw_non, thaw_stm, own_tup, own_lst, own_own, own_int, own_bl, own_str, own_non, own_ty, own_stm, tru_bl, tru_int, seq_tup, seq_lst, seq_own, lst_lst, lst_own, add_int, sub_int, eq_int, ne_int, lt_int', le_int', gt_int', ge_int', ne_bl, eq_bl, idx_tup, idx_lst, idx_own, len_1, all_1, any_1, sum_1, tuple_1, list_1, sorted_1, int_1, abs_1, type_1, bind_nm, bind_tp, bind_ns, bind_tpl, min1_1, max1_1, mind_1, min2_1, max2_1, it_enum, enumB_lst, c_par, it_seq, it_rng1, it_rng2, rngA_int, rngB_int, it_zip, zip_tup, zip_lst, par_none, par_some, parB_int, sli_tup, sli_lst, step_none, step_some, wipe_nil, wipe_cons, List.map_cons, List.map_nil, List.length_cons, len_nil, List.all_cons, List.all_nil, List.replicate, List.cons_append, List.nil_append, List.append_nil, List.zip_cons_cons, List.zip_nil_right, List.foldl_cons, List.foldl_nil, eq_self, Option.bind_some, Option.map_some, Bool.not_false, Bool.not_true, Bool.true_and, Bool.and_true, Bool.false_and, Bool.and_false, Bool.or_true, Bool.true_or, Bool.or_false, Bool.false_or, if_true, Bool.false_eq_true, if_false, Nat.sub_self, Nat.reduceAdd, Nat.reduceSub, Nat.reduceEqDiff, ite_true, ite_false, Nat.reduceLeDiff, i1, po]
      cases decide (q.2 < 4) <;> rfl
    have b1 : evS T 58 Z2a (ev x2 (some (shV sh)) x4 x5 x6 x7 x8 x9) S1 = some (.nx (ev x2 (some (shV (sh.filter fun q => decide (q.2 < 4)))) x4 x5 x6 x7 x8 x9), S1) := by
      have ll : (sh.map pairV).length ≤ LIM := by rw [List.length_map]; have := g.len; unfold LIM; omega
      have sq : (shV sh).seq? = some (sh.map pairV) := rfl
      have wo : (shV sh).isOwn = false := rfl
      show _ = some (Fl.nx (ev x2 (some (.tup ((sh.filter fun q => decide (q.2 < 4)).map pairV))) x4 x5 x6 x7 x8 x9), S1)
      unfold ev at *
      generalize (sh.filter fun q => decide (q.2 < 4)).map pairV = R at *
      generalize sh.map pairV = L at *
      generalize shV sh = V at *
      simp only [evF_end, end_nx, end_rt, FU, e_non, e_bl, e_int, e_str, e_ty, e_var, getV_some, e_glo, e_tup, e_lst, e_bin, e_neg, negV_int, e_not, e_and, e_or, andV_bl, orV_bl, and_pure, or_pure, e_cmp, e_chain, e_ite, e_idx, e_sli, e_gcd, e_sset, gcdV_int, e_call, callR_ret, e_bi, e_comp, l_nil, l_cons, s_nil, s_cons, then_nx, then_rt, turn_eq, ife_t, ife_f, ifeG_eq, c_asg, c_ret, c_retO, c_exp, c_ife, c_for, c_asgO, c_app, c_sset, g0, gS, st0, stS, thaw_tup, thaw_lst, thaw_own, thaw_int, thaw_bl, thaw_str, thaw_non, thaw_stm, own_tup, own_lst, own_own, own_int, own_bl, own_str, own_non, own_ty, own_stm, tru_bl, tru_int, seq_tup, seq_lst, seq_own, lst_lst, lst_own, add_int, sub_int, eq_int, ne_int, lt_int', le_int', gt_int', ge_int', ne_bl, eq_bl, idx_tup, idx_lst, idx_own, len_1, all_1, any_1, sum_1, tuple_1, list_1, sorted_1, int_1, abs_1, type_1, bind_nm, bind_tp, bind_ns, bind_tpl, min1_1, max1_1, mind_1, min2_1, max2_1, it_enum, enumB_lst, c_par, it_seq, it_rng1, it_rng2, rngA_int, rngB_int, it_zip, zip_tup, zip_lst, par_none, par_some, parB_int, sli_tup, sli_lst, step_none, step_some, wipe_nil, wipe_cons, List.map_cons, List.map_nil, List.length_cons, len_nil, List.all_cons, List.all_nil, List.replicate, List.cons_append, List.nil_append, List.append_nil, List.zip_cons_cons, List.zip_nil_right, List.foldl_cons, List.foldl_nil, eq_self, Option.bind_some, Option.map_some, Bool.not_false, Bool.not_true, Bool.true_and, Bool.and_true, Bool.false_and, Bool.and_false, Bool.or_true, Bool.true_or, Bool.or_false, Bool.false_or, if_true, Bool.false_eq_true, if_false, Nat.sub_self, Nat.reduceAdd, Nat.reduceSub, Nat.reduceEqDiff, ite_true, ite_false, Nat.reduceLeDiff, sq, wo, ll, cc]
    rw [c_ife, c, decide_eq_true hd, Option.bind_some, ifeG_eq]
    show ifeF T 58 [Z2a] [] _ S1 true = _
    rw [ife_t, seqn (ev := fun c env S => evS T 58 c env S) b1]
    rfl
  · refine ⟨sh, S1, ?_, g, n4⟩
    rw [c_ife, c, decide_eq_false hd]
    rfl
theorem t3 (H : Tk T) (hS : SOk S) : ∃ n S', evS T 59 Z3 (ev x2 x3 x4 x5 x6 x7 x8 x9) S = some (.nx (ev x2 x3 (some (.int n)) x5 x6 x7 x8 x9), S') ∧ 2 ≤ n ∧ n ≤ 7 ∧ SOk S' := by
  obtain ⟨φ, e, h⟩ := H.nx
  obtain ⟨d, S1, n1, n2, n3, n4⟩ := h S 6 hS (by decide) (by decide)
  refine ⟨2 + d, S1, ?_, by omega, by omega, n4⟩
  unfold ev
  simp only [evF_end, end_nx, end_rt, FU, e_non, e_bl, e_int, e_str, e_ty, e_var, getV_some, e_glo, e_tup, e_lst, e_bin, e_neg, negV_int, e_not, e_and, e_or, andV_bl, orV_bl, and_pure, or_pure, e_cmp, e_chain, e_ite, e_idx, e_sli, e_gcd, e_sset, gcdV_int, e_call, callR_ret, e_bi, e_comp, l_nil, l_cons, s_nil, s_cons, then_nx, then_rt, turn_eq, ife_t, ife_f, ifeG_eq, c_asg, c_ret, c_retO, c_exp, c_ife, c_for, c_asgO, c_app, c_sset, g0, gS, st0, stS, thaw_tup, thaw_lst, thaw_own, thaw_int, thaw_bl, thaw_str, thaw_non, thaw_stm, own_tup, own_lst, own_own, own_int, own_bl, own_str, own_non, own_ty, own_stm, tru_bl, tru_int, seq_tup, seq_lst, seq_own, lst_lst, lst_own, add_int, sub_int, eq_int, ne_int, lt_int', le_int', gt_int', ge_int', ne_bl, eq_bl, idx_tup, idx_lst, idx_own, len_1, all_1, any_1, sum_1, tuple_1, list_1, sorted_1, int_1, abs_1, type_1, bind_nm, bind_tp, bind_ns, bind_tpl, min1_1, max1_1, mind_1, min2_1, max2_1, it_enum, enumB_lst, c_par, it_seq, it_rng1, it_rng2, rngA_int, rngB_int, it_zip, zip_tup, zip_lst, par_none, par_some, parB_int, sli_tup, sli_lst, step_none, step_some, wipe_nil, wipe_cons, List.map_cons, List.map_nil, List.length_cons, len_nil, List.all_cons, List.all_nil, List.replicate, List.cons_append, List.nil_append, List.append_nil, List.zip_cons_cons, List.zip_nil_right, List.foldl_cons, List.foldl_nil, eq_self, Option.bind_some, Option.map_some, Bool.not_false, Bool.not_true, Bool.true_and, Bool.and_true, Bool.false_and, Bool.and_false, Bool.or_true, Bool.true_or, Bool.or_false, Bool.false_or, if_true, Bool.false_eq_true, if_false, Nat.sub_self, Nat.reduceAdd, Nat.reduceSub, Nat.reduceEqDiff, ite_true, ite_false, Nat.reduceLeDiff, e, n1, callR_flat (x := .int d) rfl (isO hS)]
theorem t4 (hS : SOk S) : evS T 59 Z4 (ev x2 x3 x4 x5 x6 x7 x8 x9) S = some (.nx (ev x2 x3 x4 (some (.own (([] : Sh).map pairV))) x6 x7 x8 x9), S) := by
  have l0 : decide (0 ≤ LIM) = true := by decide
  unfold ev
  rw [List.map_nil]
  simp only [evF_end, end_nx, end_rt, FU, e_non, e_bl, e_int, e_str, e_ty, e_var, getV_some, e_glo, e_tup, e_lst, e_bin, e_neg, negV_int, e_not, e_and, e_or, andV_bl, orV_bl, and_pure, or_pure, e_cmp, e_chain, e_ite, e_idx, e_sli, e_gcd, e_sset, gcdV_int, e_call, callR_ret, e_bi, e_comp, l_nil, l_cons, s_nil, s_cons, then_nx, then_rt, turn_eq, ife_t, ife_f, ifeG_eq, c_asg, c_ret, c_retO, c_exp, c_ife, c_for, c_asgO, c_app, c_sset, g0, gS, st0, stS, thaw_tup, thaw_lst, thaw_own, thaw_int, thaw_bl, thaw_str, thaw_non, thaw_stm, own_tup, own_lst, own_own, own_int, own_bl, own_str, own_non, own_ty, own_stm, tru_bl, tru_int, seq_tup, seq_lst, seq_own, lst_lst, lst_own, add_int, sub_int, eq_int, ne_int, lt_int', le_int', gt_int', ge_int', ne_bl, eq_bl, idx_tup, idx_lst, idx_own, len_1, all_1, any_1, sum_1, tuple_1, list_1, sorted_1, int_1, abs_1, type_1, bind_nm, bind_tp, bind_ns, bind_tpl, min1_1, max1_1, mind_1, min2_1, max2_1, it_enum, enumB_lst, c_par, it_seq, it_rng1, it_rng2, rngA_int, rngB_int, it_zip, zip_tup, zip_lst, par_none, par_some, parB_int, sli_tup, sli_lst, step_none, step_some, wipe_nil, wipe_cons, List.map_cons, List.map_nil, List.length_cons, len_nil, List.all_cons, List.all_nil, List.replicate, List.cons_append, List.nil_append, List.append_nil, List.zip_cons_cons, List.zip_nil_right, List.foldl_cons, List.foldl_nil, eq_self, Option.bind_some, Option.map_some, Bool.not_false, Bool.not_true, Bool.true_and, Bool.and_true, Bool.false_and, Bool.and_false, Bool.or_true, Bool.true_or, Bool.or_false, Bool.false_or, if_true, Bool.false_eq_true, if_false, Nat.sub_self, Nat.reduceAdd, Nat.reduceSub, Nat.reduceEqDiff, ite_true, ite_false, Nat.reduceLeDiff, show isFresh (.lst []) = true from rfl, l0, asgO_ok (show (5 : Nat) < [none, some PV.stm, x2, x3, x4, x5, x6, x7, x8, x9].length from by show 5 < 10; decide) (isO hS)]
theorem t5 (H : Tk T) (h2 : 2 ≤ n) (h7 : n ≤ 7) (g : GoodSh sh) : ∃ y6 y7, evS T 59 Z5 (ev x2 (some (shV sh)) (some (.int n)) (some (.own (([] : Sh).map pairV))) x6 x7 x8 x9) S = some (.nx (ev x2 (some (shV sh)) (some (.int n)) (some (.own ((joinS n sh).map pairV))) y6 y7 x8 x9), S) := by
  obtain ⟨φ, e, h⟩ := H.al
  have a := h n S h2 h7
  obtain ⟨y6, y7, w⟩ := uturns (T := T) (S := S) (x2 := x2) (x4 := some (.int n)) (x8 := x8) (x9 := x9) H g (pairsL n) [] x6 x7 (fun p hp => by have := pin2 h2 h7 hp; unfold PIn; omega) (by have := (pl_facts2 h2 h7).1; simp; omega)
  rw [List.nil_append, due_join g.len] at w
  refine ⟨y6, y7, ?_⟩
  have ca : evE T FU (.call "_law_all_pairs" [(.var 4)]) (ev x2 (some (shV sh)) (some (.int n)) (some (.own (([] : Sh).map pairV))) x6 x7 x8 x9) S = some (.lst ((pairsL n).map pairV), S) := by
    unfold ev
    generalize (pairsL n).map pairV = Pm at *
    generalize shV sh = V at *
    generalize ([] : Sh).map pairV = Q at *
    simp only [evF_end, end_nx, end_rt, FU, e_non, e_bl, e_int, e_str, e_ty, e_var, getV_some, e_glo, e_tup, e_lst, e_bin, e_neg, negV_int, e_not, e_and, e_or, andV_bl, orV_bl, and_pure, or_pure, e_cmp, e_chain, e_ite, e_idx, e_sli, e_gcd, e_sset, gcdV_int, e_call, callR_ret, e_bi, e_comp, l_nil, l_cons, s_nil, s_cons, then_nx, then_rt, turn_eq, ife_t, ife_f, ifeG_eq, c_asg, c_ret, c_retO, c_exp, c_ife, c_for, c_asgO, c_app, c_sset, g0, gS, st0, stS, thaw_tup, thaw_lst, thaw_own, thaw_int, thaw_bl, thaw_str, thaw_non, thaw_stm, own_tup, own_lst, own_own, own_int, own_bl, own_str, own_non, own_ty, own_stm, tru_bl, tru_int, seq_tup, seq_lst, seq_own, lst_lst, lst_own, add_int, sub_int, eq_int, ne_int, lt_int', le_int', gt_int', ge_int', ne_bl, eq_bl, idx_tup, idx_lst, idx_own, len_1, all_1, any_1, sum_1, tuple_1, list_1, sorted_1, int_1, abs_1, type_1, bind_nm, bind_tp, bind_ns, bind_tpl, min1_1, max1_1, mind_1, min2_1, max2_1, it_enum, enumB_lst, c_par, it_seq, it_rng1, it_rng2, rngA_int, rngB_int, it_zip, zip_tup, zip_lst, par_none, par_some, parB_int, sli_tup, sli_lst, step_none, step_some, wipe_nil, wipe_cons, List.map_cons, List.map_nil, List.length_cons, len_nil, List.all_cons, List.all_nil, List.replicate, List.cons_append, List.nil_append, List.append_nil, List.zip_cons_cons, List.zip_nil_right, List.foldl_cons, List.foldl_nil, eq_self, Option.bind_some, Option.map_some, Bool.not_false, Bool.not_true, Bool.true_and, Bool.and_true, Bool.false_and, Bool.and_false, Bool.or_true, Bool.true_or, Bool.or_false, Bool.false_or, if_true, Bool.false_eq_true, if_false, Nat.sub_self, Nat.reduceAdd, Nat.reduceSub, Nat.reduceEqDiff, ite_true, ite_false, Nat.reduceLeDiff, e, a]
  rw [c_for, it_seq, ca, Option.bind_some]
  exact w
theorem t6 (H : Tk T) (h2 : 2 ≤ n) (h7 : n ≤ 7) (g : GoodSh sh) : evS T 59 Z6 (ev x2 (some (shV sh)) (some (.int n)) x5 x6 x7 x8 x9) S = some (.nx (ev x2 (some (shV sh)) (some (.int n)) x5 x6 x7 (some (shV (joinS n sh))) x9), S) := by
  obtain ⟨φ, e, h⟩ := H.mj
  have a := h n sh S h2 h7 g
  have wo : (shV sh).isOwn = false := rfl
  have wt : (shV sh).thaw = shV sh := rfl
  have xo : (shV (joinS n sh)).isOwn = false := rfl
  unfold ev
  generalize shV (joinS n sh) = X at *
  generalize shV sh = V at *
  simp only [evF_end, end_nx, end_rt, FU, e_non, e_bl, e_int, e_str, e_ty, e_var, getV_some, e_glo, e_tup, e_lst, e_bin, e_neg, negV_int, e_not, e_and, e_or, andV_bl, orV_bl, and_pure, or_pure, e_cmp, e_chain, e_ite, e_idx, e_sli, e_gcd, e_sset, gcdV_int, e_call, callR_ret, e_bi, e_comp, l_nil, l_cons, s_nil, s_cons, then_nx, then_rt, turn_eq, ife_t, ife_f, ifeG_eq, c_asg, c_ret, c_retO, c_exp, c_ife, c_for, c_asgO, c_app, c_sset, g0, gS, st0, stS, thaw_tup, thaw_lst, thaw_own, thaw_int, thaw_bl, thaw_str, thaw_non, thaw_stm, own_tup, own_lst, own_own, own_int, own_bl, own_str, own_non, own_ty, own_stm, tru_bl, tru_int, seq_tup, seq_lst, seq_own, lst_lst, lst_own, add_int, sub_int, eq_int, ne_int, lt_int', le_int', gt_int', ge_int', ne_bl, eq_bl, idx_tup, idx_lst, idx_own, len_1, all_1, any_1, sum_1, tuple_1, list_1, sorted_1, int_1, abs_1, type_1, bind_nm, bind_tp, bind_ns, bind_tpl, min1_1, max1_1, mind_1, min2_1, max2_1, it_enum, enumB_lst, c_par, it_seq, it_rng1, it_rng2, rngA_int, rngB_int, it_zip, zip_tup, zip_lst, par_none, par_some, parB_int, sli_tup, sli_lst, step_none, step_some, wipe_nil, wipe_cons, List.map_cons, List.map_nil, List.length_cons, len_nil, List.all_cons, List.all_nil, List.replicate, List.cons_append, List.nil_append, List.append_nil, List.zip_cons_cons, List.zip_nil_right, List.foldl_cons, List.foldl_nil, eq_self, Option.bind_some, Option.map_some, Bool.not_false, Bool.not_true, Bool.true_and, Bool.and_true, Bool.false_and, Bool.and_false, Bool.or_true, Bool.true_or, Bool.or_false, Bool.false_or, if_true, Bool.false_eq_true, if_false, Nat.sub_self, Nat.reduceAdd, Nat.reduceSub, Nat.reduceEqDiff, ite_true, ite_false, Nat.reduceLeDiff, e, a, wo, wt, xo]
theorem t7 (H : Tk T) (hJ : J.length ≤ 1000) : evS T 59 Z7 (ev x2 x3 x4 (some (.own (J.map pairV))) x6 x7 (some (shV J)) x9) S = some (.nx (ev x2 x3 x4 (some (.own (J.map pairV))) x6 x7 (some (shV J)) x9), S) := by
  obtain ⟨φ, e, h⟩ := H.eq
  have a := h (shV J) S (shV_pl J) (shV_dp J) (shV_sz hJ)
  have xo : (shV J).isOwn = false := rfl
  have xt : (shV J).thaw = shV J := rfl
  have tv : PV.tup (J.map pairV) = shV J := rfl
  unfold ev
  generalize shV J = X at *
  generalize J.map pairV = Jm at *
  simp only [evF_end, end_nx, end_rt, FU, e_non, e_bl, e_int, e_str, e_ty, e_var, getV_some, e_glo, e_tup, e_lst, e_bin, e_neg, negV_int, e_not, e_and, e_or, andV_bl, orV_bl, and_pure, or_pure, e_cmp, e_chain, e_ite, e_idx, e_sli, e_gcd, e_sset, gcdV_int, e_call, callR_ret, e_bi, e_comp, l_nil, l_cons, s_nil, s_cons, then_nx, then_rt, turn_eq, ife_t, ife_f, ifeG_eq, c_asg, c_ret, c_retO, c_exp, c_ife, c_for, c_asgO, c_app, c_sset, g0, gS, st0, stS, thaw_tup, thaw_lst, thaw_own, thaw_int, thaw_bl, thaw_str, thaw_non, thaw_stm, own_tup, own_lst, own_own, own_int, own_bl, own_str, own_non, own_ty, own_stm, tru_bl, tru_int, seq_tup, seq_lst, seq_own, lst_lst, lst_own, add_int, sub_int, eq_int, ne_int, lt_int', le_int', gt_int', ge_int', ne_bl, eq_bl, idx_tup, idx_lst, idx_own, len_1, all_1, any_1, sum_1, tuple_1, list_1, sorted_1, int_1, abs_1, type_1, bind_nm, bind_tp, bind_ns, bind_tpl, min1_1, max1_1, mind_1, min2_1, max2_1, it_enum, enumB_lst, c_par, it_seq, it_rng1, it_rng2, rngA_int, rngB_int, it_zip, zip_tup, zip_lst, par_none, par_some, parB_int, sli_tup, sli_lst, step_none, step_some, wipe_nil, wipe_cons, List.map_cons, List.map_nil, List.length_cons, len_nil, List.all_cons, List.all_nil, List.replicate, List.cons_append, List.nil_append, List.append_nil, List.zip_cons_cons, List.zip_nil_right, List.foldl_cons, List.foldl_nil, eq_self, Option.bind_some, Option.map_some, Bool.not_false, Bool.not_true, Bool.true_and, Bool.and_true, Bool.false_and, Bool.and_false, Bool.or_true, Bool.true_or, Bool.or_false, Bool.false_or, if_true, Bool.false_eq_true, if_false, Nat.sub_self, Nat.reduceAdd, Nat.reduceSub, Nat.reduceEqDiff, ite_true, ite_false, Nat.reduceLeDiff, tv, e, a, xo, xt]
theorem t8 (H : Tk T) (g : GoodSh sh) (h2 : 2 ≤ n) (h7 : n ≤ 7) : evS T 59 Z8 (ev x2 (some (shV sh)) x4 x5 x6 x7 (some (shV (joinS n sh))) x9) S = some (.nx (ev x2 (some (shV sh)) x4 x5 x6 x7 (some (shV (joinS n sh))) x9), S) := by
  obtain ⟨φ, e, h⟩ := H.en
  have jl := join_len h2 h7 (sh := sh)
  have cc : compL (stepV (fun e env S => evE T 57 e env S) Z8c (.nm 6) none (ev x2 (some (shV sh)) x4 x5 none x7 (some (shV (joinS n sh))) x9)) ((joinS n sh).map pairV) S = some (((joinS n sh).map fun _ => true).map .bl, S) := by
    rw [List.map_map]
    refine compL_maps fun p hp => ?_
    obtain ⟨j1, j2, j3, j4⟩ := join_in hp
    have pn := pin2 h2 h7 j2
    have h10 := g.len
    have gi := ins_good g (by omega) (p := p) (by omega) j3
    have a := h (insS sh p) S gi
    rw [j4] at a
    have ad := addP (p := p) h10
    have ss := srt_sh (l := sh ++ [p])
    have po : (pairV p).isOwn = false := rfl
    have L1 : decide (1 ≤ LIM) = true := by decide
    have fin : PV.tup ((isort le2 (sh ++ [p])).map pairV) = shV (insS sh p) := rfl
    have xo : (shV (insS sh p)).isOwn = false := rfl
    have xt : (shV (insS sh p)).thaw = shV (insS sh p) := rfl
    unfold ev
    generalize (isort le2 (sh ++ [p])).map pairV = R at *
    generalize (sh ++ [p]).map pairV = Q at *
    generalize shV (insS sh p) = X at *
    generalize shV (joinS n sh) = J at *
    generalize shV sh = V at *
    generalize pairV p = pd at *
    simp only [evF_end, end_nx, end_rt, FU, e_non, e_bl, e_int, e_str, e_ty, e_var, getV_some, e_glo, e_tup, e_lst, e_bin, e_neg, negV_int, e_not, e_and, e_or, andV_bl, orV_bl, and_pure, or_pure, e_cmp, e_chain, e_ite, e_idx, e_sli, e_gcd, e_sset, gcdV_int, e_call, callR_ret, e_bi, e_comp, l_nil, l_cons, s_nil, s_cons, then_nx, then_rt, turn_eq, ife_t, ife_f, ifeG_eq, c_asg, c_ret, c_retO, c_exp, c_ife, c_for, c_asgO, c_app, c_sset, g0, gS, st0, stS, thaw_tup, thaw_lst, thaw_own, thaw_int, thaw_bl, thaw_str, thaw_non, thaw_stm, own_tup, own_lst, own_own, own_int, own_bl, own_str, own_non, own_ty, own_stm, tru_bl, tru_int, seq_tup, seq_lst, seq_own, lst_lst, lst_own, add_int, sub_int, eq_int, ne_int, lt_int', le_int', gt_int', ge_int', ne_bl, eq_bl, idx_tup, idx_lst, idx_own, len_1, all_1, any_1, sum_1, tuple_1, list_1, sorted_1, int_1, abs_1, type_1, bind_nm, bind_tp, bind_ns, bind_tpl, min1_1, max1_1, mind_1, min2_1, max2_1, it_enum, enumB_lst, c_par, it_seq, it_rng1, it_rng2, rngA_int, rngB_int, it_zip, zip_tup, zip_lst, par_none, par_some, parB_int, sli_tup, sli_lst, step_none, step_some, wipe_nil, wipe_cons, List.map_cons, List.map_nil, List.length_cons, len_nil, List.all_cons, List.all_nil, List.replicate, List.cons_append, List.nil_append, List.append_nil, List.zip_cons_cons, List.zip_nil_right, List.foldl_cons, List.foldl_nil, eq_self, Option.bind_some, Option.map_some, Bool.not_false, Bool.not_true, Bool.true_and, Bool.and_true, Bool.false_and, Bool.and_false, Bool.or_true, Bool.true_or, Bool.or_false, Bool.false_or, if_true, Bool.false_eq_true, if_false, Nat.sub_self, Nat.reduceAdd, Nat.reduceSub, Nat.reduceEqDiff, ite_true, ite_false, Nat.reduceLeDiff, ad, ss, po, L1, fin, xo, xt, e, a]
    rfl
  have al : (((joinS n sh).map fun _ => true).all id) = true := by rw [List.all_map]; exact List.all_eq_true.mpr fun _ _ => rfl
  have ll : ((joinS n sh).map pairV).length ≤ LIM := by rw [List.length_map]; unfold LIM; omega
  have sq : (shV (joinS n sh)).seq? = some ((joinS n sh).map pairV) := rfl
  have wo : (shV (joinS n sh)).isOwn = false := rfl
  unfold ev at *
  generalize ((joinS n sh).map fun _ => true) = Z at *
  generalize (joinS n sh).map pairV = Jm at *
  generalize shV (joinS n sh) = J at *
  generalize shV sh = V at *
  simp only [evF_end, end_nx, end_rt, FU, e_non, e_bl, e_int, e_str, e_ty, e_var, getV_some, e_glo, e_tup, e_lst, e_bin, e_neg, negV_int, e_not, e_and, e_or, andV_bl, orV_bl, and_pure, or_pure, e_cmp, e_chain, e_ite, e_idx, e_sli, e_gcd, e_sset, gcdV_int, e_call, callR_ret, e_bi, e_comp, l_nil, l_cons, s_nil, s_cons, then_nx, then_rt, turn_eq, ife_t, ife_f, ifeG_eq, c_asg, c_ret, c_retO, c_exp, c_ife, c_for, c_asgO, c_app, c_sset, g0, gS, st0, stS, thaw_tup, thaw_lst, thaw_own, thaw_int, thaw_bl, thaw_str, thaw_non, thaw_stm, own_tup, own_lst, own_own, own_int, own_bl, own_str, own_non, own_ty, own_stm, tru_bl, tru_int, seq_tup, seq_lst, seq_own, lst_lst, lst_own, add_int, sub_int, eq_int, ne_int, lt_int', le_int', gt_int', ge_int', ne_bl, eq_bl, idx_tup, idx_lst, idx_own, len_1, all_1, any_1, sum_1, tuple_1, list_1, sorted_1, int_1, abs_1, type_1, bind_nm, bind_tp, bind_ns, bind_tpl, min1_1, max1_1, mind_1, min2_1, max2_1, it_enum, enumB_lst, c_par, it_seq, it_rng1, it_rng2, rngA_int, rngB_int, it_zip, zip_tup, zip_lst, par_none, par_some, parB_int, sli_tup, sli_lst, step_none, step_some, wipe_nil, wipe_cons, List.map_cons, List.map_nil, List.length_cons, len_nil, List.all_cons, List.all_nil, List.replicate, List.cons_append, List.nil_append, List.append_nil, List.zip_cons_cons, List.zip_nil_right, List.foldl_cons, List.foldl_nil, eq_self, Option.bind_some, Option.map_some, Bool.not_false, Bool.not_true, Bool.true_and, Bool.and_true, Bool.false_and, Bool.and_false, Bool.or_true, Bool.true_or, Bool.or_false, Bool.false_or, if_true, Bool.false_eq_true, if_false, Nat.sub_self, Nat.reduceAdd, Nat.reduceSub, Nat.reduceEqDiff, ite_true, ite_false, Nat.reduceLeDiff, sq, wo, ll, cc, bls_map, al]
theorem turn (H : Tk T) (hS : SOk S) (i : Int) : ∃ y3 y4 y5 y6 y7 y8 S', bodyF T 59 (.nm 2) TB (.int i) (ev x2 x3 x4 x5 x6 x7 x8 x9) S = some (.nx (ev (some (.int i)) y3 y4 y5 y6 y7 y8 x9), S') ∧ SOk S' := by
  obtain ⟨sh0, S1, w1, g0, k1⟩ := t1 (x2 := some (.int i)) (x3 := x3) (x4 := x4) (x5 := x5) (x6 := x6) (x7 := x7) (x8 := x8) (x9 := x9) H hS
  obtain ⟨sh, S2, w2, g, k2⟩ := t2 (x2 := some (.int i)) (x4 := x4) (x5 := x5) (x6 := x6) (x7 := x7) (x8 := x8) (x9 := x9) H k1 g0
  obtain ⟨n, S3, w3, n2, n7, k3⟩ := t3 (x2 := some (.int i)) (x3 := some (shV sh)) (x4 := x4) (x5 := x5) (x6 := x6) (x7 := x7) (x8 := x8) (x9 := x9) H k2
  have w4 := t4 (T := T) (x2 := some (.int i)) (x3 := some (shV sh)) (x4 := some (.int n)) (x5 := x5) (x6 := x6) (x7 := x7) (x8 := x8) (x9 := x9) k3
  obtain ⟨y6, y7, w5⟩ := t5 (S := S3) (x2 := some (.int i)) (x6 := x6) (x7 := x7) (x8 := x8) (x9 := x9) H n2 n7 g
  have w6 := t6 (S := S3) (x2 := some (.int i)) (x5 := some (.own ((joinS n sh).map pairV))) (x6 := y6) (x7 := y7) (x8 := x8) (x9 := x9) H n2 n7 g
  have jl := join_len n2 n7 (sh := sh)
  have w7 := t7 (S := S3) (J := joinS n sh) (x2 := some (.int i)) (x3 := some (shV sh)) (x4 := some (.int n)) (x6 := y6) (x7 := y7) (x9 := x9) H (by omega)
  have w8 := t8 (S := S3) (x2 := some (.int i)) (x4 := some (.int n)) (x5 := some (.own ((joinS n sh).map pairV))) (x6 := y6) (x7 := y7) (x9 := x9) H g n2 n7
  refine ⟨some (shV sh), some (.int n), some (.own ((joinS n sh).map pairV)), y6, y7, some (shV (joinS n sh)), S3, ?_, k3⟩
  rw [body_eq]
  show (some (ev (some (.int i)) x3 x4 x5 x6 x7 x8 x9)).bind _ = _
  rw [Option.bind_some, seqn (ev := fun c env S => evS T 59 c env S) w1, seqn (ev := fun c env S => evS T 59 c env S) w2, seqn (ev := fun c env S => evS T 59 c env S) w3, seqn (ev := fun c env S => evS T 59 c env S) w4, seqn (ev := fun c env S => evS T 59 c env S) w5, seqn (ev := fun c env S => evS T 59 c env S) w6, seqn (ev := fun c env S => evS T 59 c env S) w7, seqn (ev := fun c env S => evS T 59 c env S) w8]
  rfl
theorem turns (H : Tk T) : ∀ (is : List Int) (x2 x3 x4 x5 x6 x7 x8 : Option PV) (S : Strm), SOk S → ∃ y2 y3 y4 y5 y6 y7 y8 S', forL (bodyF T 59 (.nm 2) TB) (is.map .int) (ev x2 x3 x4 x5 x6 x7 x8 x9) S = some (.nx (ev y2 y3 y4 y5 y6 y7 y8 x9), S') ∧ SOk S'
  | [], x2, x3, x4, x5, x6, x7, x8, S, hS => ⟨x2, x3, x4, x5, x6, x7, x8, S, rfl, hS⟩
  | i :: is, x2, x3, x4, x5, x6, x7, x8, S, hS => by
    obtain ⟨y3, y4, y5, y6, y7, y8, S1, w, k⟩ := turn (x2 := x2) (x3 := x3) (x4 := x4) (x5 := x5) (x6 := x6) (x7 := x7) (x8 := x8) (x9 := x9) H hS i
    obtain ⟨z2, z3, z4, z5, z6, z7, z8, S2, ih, k2⟩ := turns H is (some (.int i)) y3 y4 y5 y6 y7 y8 S1 k
    refine ⟨z2, z3, z4, z5, z6, z7, z8, S2, ?_, k2⟩
    rw [List.map_cons, forL, w, Option.bind_some]
    exact ih
end
end K25

namespace K25
open PySem PySem.Spec L2 Ws

section
variable {T : Tbl} {S : Strm} {n : Int} {sh F J : Sh} {p : Int × Int} {x2 x3 x4 x5 x6 x7 x8 x9 : Option PV}
/-! the end -/
theorem good5 : GoodSh (pairsL 5) := ⟨by decide +kernel, fun p hp => by have := pin2 (n := 5) (by decide) (by decide) hp; omega, (pl_facts2 (n := 5) (by decide) (by decide)).2.2⟩
theorem join10 {sh : Sh} (h : sh.length = 10) : joinS n sh = [] := by unfold joinS; rw [if_pos h]
def E11 : Sh := (pairsL 7).filter fun q => decide (q.1 < 2)
theorem e11_len : E11.length = 11 := by decide +kernel
def e11B (d : Nat) : Bool := decide ((E11.eraseIdx d).length = 10) && enB (E11.eraseIdx d)
theorem e11_0 : e11B 0 = true := by decide +kernel
theorem e11_1 : e11B 1 = true := by decide +kernel
theorem e11_2 : e11B 2 = true := by decide +kernel
theorem e11_3 : e11B 3 = true := by decide +kernel
theorem e11_4 : e11B 4 = true := by decide +kernel
theorem e11_5 : e11B 5 = true := by decide +kernel
theorem e11_6 : e11B 6 = true := by decide +kernel
theorem e11_7 : e11B 7 = true := by decide +kernel
theorem e11_8 : e11B 8 = true := by decide +kernel
theorem e11_9 : e11B 9 = true := by decide +kernel
theorem e11_10 : e11B 10 = true := by decide +kernel
theorem e11_at {d : Nat} (h : d < 11) : e11B d = true := by
  have h' : d = 0 ∨ d = 1 ∨ d = 2 ∨ d = 3 ∨ d = 4 ∨ d = 5 ∨ d = 6 ∨ d = 7 ∨ d = 8 ∨ d = 9 ∨ d = 10 := by omega
  rcases h' with rfl | rfl | rfl | rfl | rfl | rfl | rfl | rfl | rfl | rfl | rfl
  · exact e11_0
  · exact e11_1
  · exact e11_2
  · exact e11_3
  · exact e11_4
  · exact e11_5
  · exact e11_6
  · exact e11_7
  · exact e11_8
  · exact e11_9
  · exact e11_10
theorem e11_good {d : Nat} (h : d < 11) : GoodSh (E11.eraseIdx d) ∧ (E11.eraseIdx d).length = 10 ∧ enB (E11.eraseIdx d) = true := by
  have w := e11_at h
  unfold e11B at w
  rw [Bool.and_eq_true, decide_eq_true_eq] at w
  have sub : (E11.eraseIdx d).Sublist (pairsL 7) := (List.eraseIdx_sublist _ _).trans List.filter_sublist
  exact ⟨⟨by omega, fun p hp => by have := pin2 (n := 7) (by decide) (by decide) (sub.subset hp); omega, (pl_facts2 (n := 7) (by decide) (by decide)).2.2.sublist sub⟩, w.1, w.2⟩
abbrev V1c : CE := .cmp .ne (.call "may_join" [(.bi .tuple [(.call "_law_all_pairs" [(.int 5)])]), (.bin .add (.int 2) (.call "_law_next" [(.var 1), (.int 6)]))]) (.tup [])
abbrev V2 : CS := .asgO 9 (.comp (.var 6) (.nm 6) (.seq (.call "_law_all_pairs" [(.int 7)])) (some (.cmp .lt (.idx (.var 6) (.int 0)) (.int 2))) [("pair", 6)])
abbrev V3 : CS := .popx 9 (.call "_law_next" [(.var 1), (.int 11)])
abbrev V4 : CE := .and (.cmp .isB (.call "is_enough" [(.bi .tuple [(.var 9)])]) (.bl true)) (.cmp .eq (.call "may_join" [(.bi .tuple [(.var 9)]), (.int 7)]) (.tup []))
theorem ne_nil : cmpV .ne (.tup []) (.tup []) = some false := by rfl
theorem eq_nil0 : cmpV .eq (.tup []) (.tup []) = some true := by rfl
theorem v1 (H : Tk T) (hS : SOk S) : ∃ S', evE T FU V1c (ev x2 x3 x4 x5 x6 x7 x8 x9) S = some (.bl false, S') ∧ SOk S' := by
  obtain ⟨φ, e, h⟩ := H.al
  obtain ⟨φ2, e2, h2⟩ := H.mj
  obtain ⟨φ3, e3, h3⟩ := H.nx
  have a := h 5 S (by decide) (by decide)
  obtain ⟨d, S1, n1, n2, n3, n4⟩ := h3 S 6 hS (by decide) (by decide)
  have a2 := h2 (2 + d) (pairsL 5) S1 (by omega) (by omega) good5
  rw [join10 (by decide +kernel), show shV [] = .tup [] from rfl] at a2
  refine ⟨S1, ?_, n4⟩
  have tv : PV.tup ((pairsL 5).map pairV) = shV (pairsL 5) := rfl
  have xo : (shV (pairsL 5)).isOwn = false := rfl
  have xt : (shV (pairsL 5)).thaw = shV (pairsL 5) := rfl
  have nn := ne_nil
  have l0 : decide (0 ≤ LIM) = true := by decide
  have eo : (PV.tup []).isOwn = false := rfl
  unfold ev
  generalize shV (pairsL 5) = X at *
  generalize (pairsL 5).map pairV = Pm at *
  simp only [evF_end, end_nx, end_rt, FU, e_non, e_bl, e_int, e_str, e_ty, e_var, getV_some, e_glo, e_tup, e_lst, e_bin, e_neg, negV_int, e_not, e_and, e_or, andV_bl, orV_bl, and_pure, or_pure, e_cmp, e_chain, e_ite, e_idx, e_sli, e_gcd, e_sset, gcdV_int, e_call, callR_ret, e_bi, e_comp, l_nil, l_cons, s_nil, s_cons, then_nx, then_rt, turn_eq, ife_t, ife_f, ifeG_eq, c_asg, c_ret, c_retO, c_exp, c_ife, c_for, c_asgO, c_app, c_sset, g0, gS, st0, stS, thaw_tup, thaw_lst, thaw_own, thaw_int, thaw_bl, thaw_str, thaw_non, thaw_stm, own_tup, own_lst, own_own, own_int, own_bl, own_str, own_non, own_ty, own_stm, tru_bl, tru_int, seq_tup, seq_lst, seq_own, lst_lst, lst_own, add_int, sub_int, eq_int, ne_int, lt_int', le_int', gt_int', ge_int', ne_bl, eq_bl, idx_tup, idx_lst, idx_own, len_1, all_1, any_1, sum_1, tuple_1, list_1, sorted_1, int_1, abs_1, type_1, bind_nm, bind_tp, bind_ns, bind_tpl, min1_1, max1_1, mind_1, min2_1, max2_1, it_enum, enumB_lst, c_par, it_seq, it_rng1, it_rng2, rngA_int, rngB_int, it_zip, zip_tup, zip_lst, par_none, par_some, parB_int, sli_tup, sli_lst, step_none, step_some, wipe_nil, wipe_cons, List.map_cons, List.map_nil, List.length_cons, len_nil, List.all_cons, List.all_nil, List.replicate, List.cons_append, List.nil_append, List.append_nil, List.zip_cons_cons, List.zip_nil_right, List.foldl_cons, List.foldl_nil, eq_self, Option.bind_some, Option.map_some, Bool.not_false, Bool.not_true, Bool.true_and, Bool.and_true, Bool.false_and, Bool.and_false, Bool.or_true, Bool.true_or, Bool.or_false, Bool.false_or, if_true, Bool.false_eq_true, if_false, Nat.sub_self, Nat.reduceAdd, Nat.reduceSub, Nat.reduceEqDiff, ite_true, ite_false, Nat.reduceLeDiff, e, a, tv, e3, n1, callR_flat (x := .int d) rfl (isO hS), e2, a2, xo, xt, l0, eo]
  first | exact nn ▸ rfl | rfl
theorem v2 (H : Tk T) (hS : SOk S) : evS T FU V2 (ev x2 x3 x4 x5 x6 x7 x8 x9) S = some (.nx (ev x2 x3 x4 x5 x6 x7 x8 (some (.own (E11.map pairV)))), S) := by
  obtain ⟨φ, e, h⟩ := H.al
  have a := h 7 S (by decide) (by decide)
  have cc : compL (stepV (fun e env S => evE T 59 e env S) (.var 6) (.nm 6) (some (.cmp .lt (.idx (.var 6) (.int 0)) (.int 2))) (ev x2 x3 x4 x5 none x7 x8 x9)) ((pairsL 7).map pairV) S = some (E11.map pairV, S) := by
    unfold E11
    refine compL_fil fun q hq => ?_
    have i1 : ∀ S, idxS S (pairV q) (.int 0) = some (.int q.1) := fun _ => rfl
    have po : (pairV q).isOwn = false := rfl
    unfold ev
    generalize pairV q = pd at *
    simp only [evF_end, end_nx, end_rt, FU, e_non, e_bl, e_int, e_str, e_ty, e_var, getV_some, e_glo, e_tup, e_lst, e_bin, e_neg, negV_int, e_not, e_and, e_or, andV_bl, orV_bl, and_pure, or_pure, e_cmp, e_chain, e_ite, e_idx, e_sli, e_gcd, e_sset, gcdV_int, e_call, callR_ret, e_bi, e_comp, l_nil, l_cons, s_nil, s_cons, then_nx, then_rt, turn_eq, ife_t, ife_f, ifeG_eq, c_asg, c_ret, c_retO, c_exp, c_ife, c_for, c_asgO, c_app, c_sset, g0, gS, st0, stS, thaw_tup, thaw_lst, thaw_own, thaw_int, thaw_bl, thaw_str, thaw_non, thaw_stm, own_tup, own_lst, own_own, own_int, own_bl, own_str, own_non, own_ty, own_stm, tru_bl, tru_int, seq_tup, seq_lst, seq_own, lst_lst, lst_own, add_int, sub_int, eq_int, ne_int, lt_int', le_int', gt_int', ge_int', ne_bl, eq_bl, idx_tup, idx_lst, idx_own, len_1, all_1, any_1, sum_1, tuple_1, list_1, sorted_1, int_1, abs_1, type_1, bind_nm, bind_tp, bind_ns, bind_tpl, min1_1, max1_1, mind_1, min2_1, max2_1, it_enum, enumB_lst, c_par, it_seq, it_rng1, it_rng2, rngA_int, rngB_int, it_zip, zip_tup, zip_lst, par_none, par_some, parB_int, sli_tup, sli_lst, step_none, step_some, wipe_nil, wipe_cons, List.map_cons, List.map_nil, List.length_cons, len_nil, List.all_cons, List.all_nil, List.replicate, List.cons_append, List.nil_append, List.append_nil, List.zip_cons_cons, List.zip_nil_right, List.foldl_cons, List.foldl_nil, eq_self, Option.bind_some, Option.map_some, Bool.not_false, Bool.not_true, Bool.true_and, Bool.and_true, Bool.false_and, Bool.and_false, Bool.or_true, Bool.true_or, Bool.or_false, Bool.false_or, if_true, Bool.false_eq_true, if_false, Nat.sub_self, Nat.reduceAdd, Nat.reduceSub, Nat.reduceEqDiff, ite_true, ite_false, Nat.reduceLeDiff, i1, po]
    cases decide (q.1 < 2) <;> rfl
  have ll : ((pairsL 7).map pairV).length ≤ LIM := by rw [List.length_map]; have := (pl_facts2 (n := 7) (by decide) (by decide)).1; unfold LIM; omega
  have f : isFresh (.comp (.var 6) (.nm 6) (.seq (.call "_law_all_pairs" [(.int 7)])) (some (.cmp .lt (.idx (.var 6) (.int 0)) (.int 2))) [("pair", 6)]) = true := rfl
  unfold ev at *
  generalize (pairsL 7).map pairV = Pm at *
  generalize E11.map pairV = Em at *
  simp only [evF_end, end_nx, end_rt, FU, e_non, e_bl, e_int, e_str, e_ty, e_var, getV_some, e_glo, e_tup, e_lst, e_bin, e_neg, negV_int, e_not, e_and, e_or, andV_bl, orV_bl, and_pure, or_pure, e_cmp, e_chain, e_ite, e_idx, e_sli, e_gcd, e_sset, gcdV_int, e_call, callR_ret, e_bi, e_comp, l_nil, l_cons, s_nil, s_cons, then_nx, then_rt, turn_eq, ife_t, ife_f, ifeG_eq, c_asg, c_ret, c_retO, c_exp, c_ife, c_for, c_asgO, c_app, c_sset, g0, gS, st0, stS, thaw_tup, thaw_lst, thaw_own, thaw_int, thaw_bl, thaw_str, thaw_non, thaw_stm, own_tup, own_lst, own_own, own_int, own_bl, own_str, own_non, own_ty, own_stm, tru_bl, tru_int, seq_tup, seq_lst, seq_own, lst_lst, lst_own, add_int, sub_int, eq_int, ne_int, lt_int', le_int', gt_int', ge_int', ne_bl, eq_bl, idx_tup, idx_lst, idx_own, len_1, all_1, any_1, sum_1, tuple_1, list_1, sorted_1, int_1, abs_1, type_1, bind_nm, bind_tp, bind_ns, bind_tpl, min1_1, max1_1, mind_1, min2_1, max2_1, it_enum, enumB_lst, c_par, it_seq, it_rng1, it_rng2, rngA_int, rngB_int, it_zip, zip_tup, zip_lst, par_none, par_some, parB_int, sli_tup, sli_lst, step_none, step_some, wipe_nil, wipe_cons, List.map_cons, List.map_nil, List.length_cons, len_nil, List.all_cons, List.all_nil, List.replicate, List.cons_append, List.nil_append, List.append_nil, List.zip_cons_cons, List.zip_nil_right, List.foldl_cons, List.foldl_nil, eq_self, Option.bind_some, Option.map_some, Bool.not_false, Bool.not_true, Bool.true_and, Bool.and_true, Bool.false_and, Bool.and_false, Bool.or_true, Bool.true_or, Bool.or_false, Bool.false_or, if_true, Bool.false_eq_true, if_false, Nat.sub_self, Nat.reduceAdd, Nat.reduceSub, Nat.reduceEqDiff, ite_true, ite_false, Nat.reduceLeDiff, f, e, a, ll, cc, asgO_ok (show (9 : Nat) < [none, some PV.stm, x2, x3, x4, x5, x6, x7, x8, x9].length from by show 9 < 10; decide) (isO hS)]
theorem v3 (H : Tk T) (hS : SOk S) : ∃ d S', evS T FU V3 (ev x2 x3 x4 x5 x6 x7 x8 (some (.own (E11.map pairV)))) S = some (.nx (ev x2 x3 x4 x5 x6 x7 x8 (some (.own ((E11.eraseIdx d).map pairV)))), S') ∧ d < 11 ∧ SOk S' := by
  obtain ⟨φ, e, h⟩ := H.nx
  obtain ⟨d, S1, n1, n2, n3, n4⟩ := h S 11 hS (by decide) (by decide)
  refine ⟨d.toNat, S1, ?_, by omega, n4⟩
  have e1 : evE T FU (.call "_law_next" [(.var 1), (.int 11)]) (ev x2 x3 x4 x5 x6 x7 x8 (some (.own (E11.map pairV)))) S = some (.int d, S1) := by
    unfold ev
    generalize E11.map pairV = Em at *
    simp only [evF_end, end_nx, end_rt, FU, e_non, e_bl, e_int, e_str, e_ty, e_var, getV_some, e_glo, e_tup, e_lst, e_bin, e_neg, negV_int, e_not, e_and, e_or, andV_bl, orV_bl, and_pure, or_pure, e_cmp, e_chain, e_ite, e_idx, e_sli, e_gcd, e_sset, gcdV_int, e_call, callR_ret, e_bi, e_comp, l_nil, l_cons, s_nil, s_cons, then_nx, then_rt, turn_eq, ife_t, ife_f, ifeG_eq, c_asg, c_ret, c_retO, c_exp, c_ife, c_for, c_asgO, c_app, c_sset, g0, gS, st0, stS, thaw_tup, thaw_lst, thaw_own, thaw_int, thaw_bl, thaw_str, thaw_non, thaw_stm, own_tup, own_lst, own_own, own_int, own_bl, own_str, own_non, own_ty, own_stm, tru_bl, tru_int, seq_tup, seq_lst, seq_own, lst_lst, lst_own, add_int, sub_int, eq_int, ne_int, lt_int', le_int', gt_int', ge_int', ne_bl, eq_bl, idx_tup, idx_lst, idx_own, len_1, all_1, any_1, sum_1, tuple_1, list_1, sorted_1, int_1, abs_1, type_1, bind_nm, bind_tp, bind_ns, bind_tpl, min1_1, max1_1, mind_1, min2_1, max2_1, it_enum, enumB_lst, c_par, it_seq, it_rng1, it_rng2, rngA_int, rngB_int, it_zip, zip_tup, zip_lst, par_none, par_some, parB_int, sli_tup, sli_lst, step_none, step_some, wipe_nil, wipe_cons, List.map_cons, List.map_nil, List.length_cons, len_nil, List.all_cons, List.all_nil, List.replicate, List.cons_append, List.nil_append, List.append_nil, List.zip_cons_cons, List.zip_nil_right, List.foldl_cons, List.foldl_nil, eq_self, Option.bind_some, Option.map_some, Bool.not_false, Bool.not_true, Bool.true_and, Bool.and_true, Bool.false_and, Bool.and_false, Bool.or_true, Bool.true_or, Bool.or_false, Bool.false_or, if_true, Bool.false_eq_true, if_false, Nat.sub_self, Nat.reduceAdd, Nat.reduceSub, Nat.reduceEqDiff, ite_true, ite_false, Nat.reduceLeDiff, e, n1, callR_flat (x := .int d) rfl (isO hS)]
  have iR : inR d = true := by unfold inR; simp; omega
  have ix : ixN (E11.map pairV).length d = some d.toNat := by unfold ixN; rw [if_pos n2, if_pos (by rw [List.length_map, e11_len]; omega)]
  rw [FU, c_popx, e1, Option.bind_some]
  show (some (E11.map pairV)).bind _ = _
  rw [Option.bind_some]
  unfold popxV
  dsimp only
  rw [if_pos iR, ix, Option.map_some, erase_map]
  rfl
theorem v4 (H : Tk T) {d : Nat} (hd : d < 11) : evE T FU V4 (ev x2 x3 x4 x5 x6 x7 x8 (some (.own ((E11.eraseIdx d).map pairV)))) S = some (.bl true, S) := by
  obtain ⟨g, l10, b⟩ := e11_good hd
  obtain ⟨φ, e, h⟩ := H.en
  obtain ⟨φ2, e2, h2⟩ := H.mj
  have a := h _ S g
  have a2 := h2 7 _ S (by decide) (by decide) g
  rw [b] at a
  rw [join10 l10, show shV [] = .tup [] from rfl] at a2
  have tv : PV.tup ((E11.eraseIdx d).map pairV) = shV (E11.eraseIdx d) := rfl
  have xo : (shV (E11.eraseIdx d)).isOwn = false := rfl
  have xt : (shV (E11.eraseIdx d)).thaw = shV (E11.eraseIdx d) := rfl
  have nn := eq_nil0
  have l0 : decide (0 ≤ LIM) = true := by decide
  have eo : (PV.tup []).isOwn = false := rfl
  unfold ev
  generalize shV (E11.eraseIdx d) = X at *
  generalize (E11.eraseIdx d).map pairV = Em at *
  have bb : cmpV .isB (.bl true) (.bl true) = some true := rfl
  simp only [evF_end, end_nx, end_rt, FU, e_non, e_bl, e_int, e_str, e_ty, e_var, getV_some, e_glo, e_tup, e_lst, e_bin, e_neg, negV_int, e_not, e_and, e_or, andV_bl, orV_bl, and_pure, or_pure, e_cmp, e_chain, e_ite, e_idx, e_sli, e_gcd, e_sset, gcdV_int, e_call, callR_ret, e_bi, e_comp, l_nil, l_cons, s_nil, s_cons, then_nx, then_rt, turn_eq, ife_t, ife_f, ifeG_eq, c_asg, c_ret, c_retO, c_exp, c_ife, c_for, c_asgO, c_app, c_sset, g0, gS, st0, stS, thaw_tup, thaw_lst, thaw_own, thaw_int, thaw_bl, thaw_str, thaw_non, thaw_stm, own_tup, own_lst, own_own, own_int, own_bl, own_str, own_non, own_ty, own_stm, tru_bl, tru_int, seq_tup, seq_lst, seq_own, lst_lst, lst_own, add_int, sub_int, eq_int, ne_int, lt_int', le_int', gt_int', ge_int', ne_bl, eq_bl, idx_tup, idx_lst, idx_own, len_1, all_1, any_1, sum_1, tuple_1, list_1, sorted_1, int_1, abs_1, type_1, bind_nm, bind_tp, bind_ns, bind_tpl, min1_1, max1_1, mind_1, min2_1, max2_1, it_enum, enumB_lst, c_par, it_seq, it_rng1, it_rng2, rngA_int, rngB_int, it_zip, zip_tup, zip_lst, par_none, par_some, parB_int, sli_tup, sli_lst, step_none, step_some, wipe_nil, wipe_cons, List.map_cons, List.map_nil, List.length_cons, len_nil, List.all_cons, List.all_nil, List.replicate, List.cons_append, List.nil_append, List.append_nil, List.zip_cons_cons, List.zip_nil_right, List.foldl_cons, List.foldl_nil, eq_self, Option.bind_some, Option.map_some, Bool.not_false, Bool.not_true, Bool.true_and, Bool.and_true, Bool.false_and, Bool.and_false, Bool.or_true, Bool.true_or, Bool.or_false, Bool.false_or, if_true, Bool.false_eq_true, if_false, Nat.sub_self, Nat.reduceAdd, Nat.reduceSub, Nat.reduceEqDiff, ite_true, ite_false, Nat.reduceLeDiff, tv, e, a, e2, a2, xo, xt, l0, eo, nn, bb]
end
theorem rest_ok {T : Tbl} (H : Tk T) : RestOk T 8 c_law := by
  intro scr _
  have k0 : SOk (some (scr, 0, 0)) := ⟨scr, 0, 0, rfl, by decide⟩
  obtain ⟨y2, y3, y4, y5, y6, y7, y8, S1, w, k1⟩ := turns (T := T) (x9 := none) H (rngI 3) none none none none none none none _ k0
  obtain ⟨S2, w1, k2⟩ := v1 (x2 := y2) (x3 := y3) (x4 := y4) (x5 := y5) (x6 := y6) (x7 := y7) (x8 := y8) (x9 := none) H k1
  have w2 := v2 (x2 := y2) (x3 := y3) (x4 := y4) (x5 := y5) (x6 := y6) (x7 := y7) (x8 := y8) (x9 := none) H k2
  obtain ⟨d, S3, w3, hd, k3⟩ := v3 (x2 := y2) (x3 := y3) (x4 := y4) (x5 := y5) (x6 := y6) (x7 := y7) (x8 := y8) H k2
  have w4 := v4 (S := S3) (x2 := y2) (x3 := y3) (x4 := y4) (x5 := y5) (x6 := y6) (x7 := y7) (x8 := y8) H hd
  have a0 : evS T FU (.for_ (.nm 2) (.rng1 (.int 3)) TB) (ev none none none none none none none none) (some (scr, 0, 0)) = some (.nx (ev y2 y3 y4 y5 y6 y7 y8 none), S1) := by
    rw [c_for, it_rng1]
    show (rngA (.int 3, some (scr, 0, 0))).bind _ = _
    rw [rngA_int, if_pos (by decide), rangeV_rng]
    exact w
  have a1 : evS T FU (.ife V1c [.ret (.bl false)] []) (ev y2 y3 y4 y5 y6 y7 y8 none) S1 = some (.nx (ev y2 y3 y4 y5 y6 y7 y8 none), S2) := by
    rw [c_ife, w1]
    rfl
  have a4 : evS T FU (.ret V4) (ev y2 y3 y4 y5 y6 y7 y8 (some (.own ((E11.eraseIdx d).map pairV)))) S3 = some (.rt (.bl true), S3) := by
    rw [c_ret, w4]
    rfl
  refine ⟨S3, ?_⟩
  unfold c_law
  refine (seqn (ev := fun c env S => evS T FU c env S) a0).trans ?_
  refine (seqn (ev := fun c env S => evS T FU c env S) a1).trans ?_
  refine (seqn (ev := fun c env S => evS T FU c env S) w2).trans ?_
  refine (seqn (ev := fun c env S => evS T FU c env S) w3).trans ?_
  exact seqr (ev := fun c env S => evS T FU c env S) a4
end K25

namespace K25
open PySem PySem.Spec PyProof.Rows L2 Ws
def T0 : Tbl := { fn := fun _ => none, glo := fun x => if x = "MOST_PAIRS" then some 10 else if x = "MOST_POINTS" then some 7 else if x = "LEAST_POINTS" then some 2 else none }
def f__law_next : Fn := evF T0 5 P.c__law_next
def T1 : Tbl := T0.add "_law_next" 2 f__law_next
def f__law_shuffled : Fn := evF T1 4 P.c__law_shuffled_v2
def T2 : Tbl := T1.add "_law_shuffled" 2 f__law_shuffled
def f__law_all_pairs : Fn := evF T2 4 P.c__law_all_pairs
def T3 : Tbl := T2.add "_law_all_pairs" 1 f__law_all_pairs
def f__law_pair : Fn := evF T3 2 P.c__law_pair
def T4 : Tbl := T3.add "_law_pair" 2 f__law_pair
def f__law_ring : Fn := evF T4 2 P.c__law_ring
def T5 : Tbl := T4.add "_law_ring" 1 f__law_ring
def f__law_shape : Fn := evF T5 9 P.c__law_shape
def T6 : Tbl := T5.add "_law_shape" 1 f__law_shape
def f__law_apart : Fn := evF T6 2 P.c__law_apart
def T7 : Tbl := T6.add "_law_apart" 2 f__law_apart
def f__law_three_apart : Fn := evF T7 6 P.c__law_three_apart
def T8 : Tbl := T7.add "_law_three_apart" 1 f__law_three_apart
def f__law_choices : Fn := evF T8 7 P.c__law_choices
def T9 : Tbl := T8.add "_law_choices" 2 f__law_choices
def f__law_triangles : Fn := evF T9 7 P.c__law_triangles
def T10 : Tbl := T9.add "_law_triangles" 1 f__law_triangles
def f__law_bad : Fn := evF T10 3 P.c__law_bad
def T11 : Tbl := T10.add "_law_bad" 1 f__law_bad
def f_is_tuple : Fn := evF T11 3 P.c_is_tuple
def T12 : Tbl := T11.add "is_tuple" 3 f_is_tuple
def f_is_within : Fn := evF T12 3 P.c_is_within
def T13 : Tbl := T12.add "is_within" 3 f_is_within
def f_is_pair : Fn := evF T13 4 P.c_is_pair
def T14 : Tbl := T13.add "is_pair" 2 f_is_pair
def f_is_ascending : Fn := evF T14 3 P.c_is_ascending
def T15 : Tbl := T14.add "is_ascending" 1 f_is_ascending
def f_is_shape : Fn := evF T15 2 P.c_is_shape
def T16 : Tbl := T15.add "is_shape" 1 f_is_shape
def f_need_shape : Fn := evF T16 1 P.c_need_shape
def T17 : Tbl := T16.add "need_shape" 1 f_need_shape
def f_many_points : Fn := evF T17 3 P.c_many_points
def T18 : Tbl := T17.add "many_points" 1 f_many_points
def f_are_triangle : Fn := evF T18 1 P.c_are_triangle
def T19 : Tbl := T18.add "are_triangle" 1 f_are_triangle
def f_triangles : Fn := evF T19 3 P.c_triangles
def T20 : Tbl := T19.add "triangles" 1 f_triangles
def f_are_apart : Fn := evF T20 1 P.c_are_apart
def T21 : Tbl := T20.add "are_apart" 1 f_are_apart
def f_threes_apart : Fn := evF T21 2 P.c_threes_apart
def T22 : Tbl := T21.add "threes_apart" 1 f_threes_apart
def f_is_enough : Fn := evF T22 1 P.c_is_enough
def T23 : Tbl := T22.add "is_enough" 1 f_is_enough
def f_may_join : Fn := evF T23 4 P.c_may_join
def T24 : Tbl := T23.add "may_join" 2 f_may_join
def f__law_is_integer : Fn := evF T24 1 P.c__law_is_integer
def T25 : Tbl := T24.add "_law_is_integer" 1 f__law_is_integer
def f__law_equal : Fn := recF T25 "_law_equal" 2 3 P.c__law_equal 3
def T26 : Tbl := recT T25 "_law_equal" 2 3 P.c__law_equal 3
theorem d__law_shuffled__law_next : T1.fn "_law_next" = some (2, f__law_next) := by kernel_rfl
theorem d__law_ring__law_pair : T4.fn "_law_pair" = some (2, f__law_pair) := by kernel_rfl
theorem d__law_shape__law_shuffled : T5.fn "_law_shuffled" = some (2, f__law_shuffled) := by kernel_rfl
theorem d__law_shape__law_all_pairs : T5.fn "_law_all_pairs" = some (1, f__law_all_pairs) := by kernel_rfl
theorem d__law_shape__law_next : T5.fn "_law_next" = some (2, f__law_next) := by kernel_rfl
theorem d__law_shape__law_ring : T5.fn "_law_ring" = some (1, f__law_ring) := by kernel_rfl
theorem d__law_shape__law_pair : T5.fn "_law_pair" = some (2, f__law_pair) := by kernel_rfl
theorem d__law_three_apart__law_apart : T7.fn "_law_apart" = some (2, f__law_apart) := by kernel_rfl
theorem d__law_triangles__law_choices : T9.fn "_law_choices" = some (2, f__law_choices) := by kernel_rfl
theorem d__law_triangles__law_apart : T9.fn "_law_apart" = some (2, f__law_apart) := by kernel_rfl
theorem d__law_bad__law_three_apart : T10.fn "_law_three_apart" = some (1, f__law_three_apart) := by kernel_rfl
theorem d__law_bad__law_triangles : T10.fn "_law_triangles" = some (1, f__law_triangles) := by kernel_rfl
theorem d_is_pair_is_tuple : T13.fn "is_tuple" = some (3, f_is_tuple) := by kernel_rfl
theorem d_is_pair_is_within : T13.fn "is_within" = some (3, f_is_within) := by kernel_rfl
theorem d_is_shape_is_pair : T15.fn "is_pair" = some (2, f_is_pair) := by kernel_rfl
theorem d_is_shape_is_tuple : T15.fn "is_tuple" = some (3, f_is_tuple) := by kernel_rfl
theorem d_is_shape_is_ascending : T15.fn "is_ascending" = some (1, f_is_ascending) := by kernel_rfl
theorem g_is_shape_MOST_PAIRS : T15.glo "MOST_PAIRS" = some 10 := by kernel_rfl
theorem g_is_shape_MOST_POINTS : T15.glo "MOST_POINTS" = some 7 := by kernel_rfl
theorem d_need_shape_is_shape : T16.fn "is_shape" = some (1, f_is_shape) := by kernel_rfl
theorem d_are_triangle_many_points : T18.fn "many_points" = some (1, f_many_points) := by kernel_rfl
theorem d_triangles_are_triangle : T19.fn "are_triangle" = some (1, f_are_triangle) := by kernel_rfl
theorem d_are_apart_many_points : T20.fn "many_points" = some (1, f_many_points) := by kernel_rfl
theorem d_threes_apart_are_apart : T21.fn "are_apart" = some (1, f_are_apart) := by kernel_rfl
theorem d_is_enough_need_shape : T22.fn "need_shape" = some (1, f_need_shape) := by kernel_rfl
theorem d_is_enough_triangles : T22.fn "triangles" = some (1, f_triangles) := by kernel_rfl
theorem d_is_enough_threes_apart : T22.fn "threes_apart" = some (1, f_threes_apart) := by kernel_rfl
theorem d_may_join_need_shape : T23.fn "need_shape" = some (1, f_need_shape) := by kernel_rfl
theorem d_may_join_is_within : T23.fn "is_within" = some (3, f_is_within) := by kernel_rfl
theorem d_may_join_is_enough : T23.fn "is_enough" = some (1, f_is_enough) := by kernel_rfl
theorem g_may_join_LEAST_POINTS : T23.glo "LEAST_POINTS" = some 2 := by kernel_rfl
theorem g_may_join_MOST_PAIRS : T23.glo "MOST_PAIRS" = some 10 := by kernel_rfl
theorem g_may_join_MOST_POINTS : T23.glo "MOST_POINTS" = some 7 := by kernel_rfl
theorem d_law__law_shape : T26.fn "_law_shape" = some (1, f__law_shape) := by kernel_rfl
theorem d_law__law_next : T26.fn "_law_next" = some (2, f__law_next) := by kernel_rfl
theorem d_law__law_all_pairs : T26.fn "_law_all_pairs" = some (1, f__law_all_pairs) := by kernel_rfl
theorem d_law__law_bad : T26.fn "_law_bad" = some (1, f__law_bad) := by kernel_rfl
theorem d_law_may_join : T26.fn "may_join" = some (2, f_may_join) := by kernel_rfl
theorem d_law__law_equal : T26.fn "_law_equal" = some (2, f__law_equal) := by kernel_rfl
theorem d_law_is_enough : T26.fn "is_enough" = some (1, f_is_enough) := by kernel_rfl
end K25

namespace K25
open PySem PySem.Spec PyProof.Rows L2 Ws
abbrev TT : Tbl := T26
abbrev LV : Nat := 30
theorem ok__law_next : NextOk f__law_next := next_ok
theorem ok__law_shuffled : Shuf2Ok f__law_shuffled := lawShuf2_ok ⟨_, d__law_shuffled__law_next, ok__law_next⟩
theorem ok__law_all_pairs : AllPOk f__law_all_pairs := allP_ok
theorem ok__law_pair : LPairOk f__law_pair := lawPair_ok
theorem ok__law_ring : RingOk f__law_ring := lawRing_ok ⟨_, d__law_ring__law_pair, ok__law_pair⟩
theorem ok__law_shape : ShapeDOk f__law_shape := lawShape_ok { nx := ⟨_, d__law_shape__law_next, ok__law_next⟩, sf := ⟨_, d__law_shape__law_shuffled, ok__law_shuffled⟩, al := ⟨_, d__law_shape__law_all_pairs, ok__law_all_pairs⟩, pr := ⟨_, d__law_shape__law_pair, ok__law_pair⟩, rg := ⟨_, d__law_shape__law_ring, ok__law_ring⟩ }
theorem ok__law_apart : LApOk f__law_apart := lawAp_ok
theorem ok__law_three_apart : L3Ok f__law_three_apart := law3_ok ⟨_, d__law_three_apart__law_apart, ok__law_apart⟩
theorem ok__law_choices : Choices3Ok f__law_choices := choices_ok
theorem ok__law_triangles : LTOk f__law_triangles := lawT_ok ⟨_, d__law_triangles__law_apart, ok__law_apart⟩ ⟨_, d__law_triangles__law_choices, ok__law_choices⟩
theorem ok__law_bad : LBadOk f__law_bad := lawBad_ok ⟨_, d__law_bad__law_three_apart, ok__law_three_apart⟩ ⟨_, d__law_bad__law_triangles, ok__law_triangles⟩
theorem ok_is_tuple : IsTupOk f_is_tuple := istup_ok
theorem ok_is_within : WithinOk f_is_within := within_ok
theorem ok_is_pair : IsPairOk f_is_pair := pair_ok ⟨⟨_, d_is_pair_is_within, ok_is_within⟩, ⟨_, d_is_pair_is_tuple, ok_is_tuple⟩⟩
theorem ok_is_ascending : AscOk f_is_ascending := asc_ok
theorem ok_is_shape : IsShapeOk f_is_shape := isShape_ok ⟨_, d_is_shape_is_tuple, ok_is_tuple⟩ ⟨_, d_is_shape_is_pair, ok_is_pair⟩ ⟨_, d_is_shape_is_ascending, ok_is_ascending⟩ g_is_shape_MOST_PAIRS g_is_shape_MOST_POINTS
theorem ok_need_shape : NeedShapeOk f_need_shape := needShape_ok ⟨_, d_need_shape_is_shape, ok_is_shape⟩
theorem ok_many_points : ManyOk f_many_points := many_ok
theorem ok_are_triangle : TriPOk f_are_triangle := triP_ok ⟨_, d_are_triangle_many_points, ok_many_points⟩
theorem ok_triangles : TrisOk f_triangles := tris_ok ⟨_, d_triangles_are_triangle, ok_are_triangle⟩
theorem ok_are_apart : ApartPOk f_are_apart := apartP_ok ⟨_, d_are_apart_many_points, ok_many_points⟩
theorem ok_threes_apart : ThreesOk f_threes_apart := threes_ok ⟨_, d_threes_apart_are_apart, ok_are_apart⟩
theorem ok_is_enough : EnoughOk f_is_enough := enough_ok ⟨_, d_is_enough_need_shape, ok_need_shape⟩ ⟨_, d_is_enough_threes_apart, ok_threes_apart⟩ ⟨_, d_is_enough_triangles, ok_triangles⟩
theorem ok_may_join : MayJoinOk f_may_join := mayJoin_ok ⟨_, d_may_join_need_shape, ok_need_shape⟩ ⟨_, d_may_join_is_within, ok_is_within⟩ ⟨_, d_may_join_is_enough, ok_is_enough⟩ g_may_join_MOST_PAIRS g_may_join_MOST_POINTS g_may_join_LEAST_POINTS
theorem ok_i0 : IsIntOk f__law_is_integer := isInt_ok
theorem ok_e0 : EqSelfOk 0 (recF T25 "_law_equal" 2 3 P.c__law_equal 1) := eqSelf_step ⟨f__law_is_integer, by kernel_rfl, ok_i0⟩ ⟨fun _ _ => none, by kernel_rfl, .inl rfl⟩
theorem ok_e1 : EqSelfOk 1 (recF T25 "_law_equal" 2 3 P.c__law_equal 2) := eqSelf_step ⟨f__law_is_integer, by kernel_rfl, ok_i0⟩ ⟨recF T25 "_law_equal" 2 3 P.c__law_equal 1, by kernel_rfl, .inr ⟨0, rfl, ok_e0⟩⟩
theorem ok__law_equal : EqSelfOk 2 f__law_equal := eqSelf_step ⟨f__law_is_integer, by kernel_rfl, ok_i0⟩ ⟨recF T25 "_law_equal" 2 3 P.c__law_equal 2, by kernel_rfl, .inr ⟨1, rfl, ok_e1⟩⟩
theorem tk : Tk TT := ⟨⟨_, d_law__law_next, ok__law_next⟩, ⟨_, d_law__law_shape, ok__law_shape⟩, ⟨_, d_law__law_all_pairs, ok__law_all_pairs⟩, ⟨_, d_law__law_bad, ok__law_bad⟩, ⟨_, d_law_may_join, ok_may_join⟩, ⟨_, d_law__law_equal, ok__law_equal⟩, ⟨_, d_law_is_enough, ok_is_enough⟩⟩
theorem all_mk {P : Program} {w : World} {K : PySem.W.Frag} {h : Heap} {mg : Str → Option Value} {fa : Addr} (X : K.In h) (G : h.Ns mainGlobals mg) (hfa : mg "law" = some (.ref fa))
    {p0 : Addr} {od0 an0 : Option Addr} {sl0 : Array (Option Value)} {oc0 kV0 dc0 pm0 cd0 ct0 : Value}
    {p1 : Addr} {od1 an1 : Option Addr} {sl1 : Array (Option Value)} {oc1 kV1 dc1 pm1 cd1 ct1 : Value}
    {p2 : Addr} {od2 an2 : Option Addr} {sl2 : Array (Option Value)} {oc2 kV2 dc2 pm2 cd2 ct2 : Value}
    {p3 : Addr} {od3 an3 : Option Addr} {sl3 : Array (Option Value)} {oc3 kV3 dc3 pm3 cd3 ct3 : Value}
    {p4 : Addr} {od4 an4 : Option Addr} {sl4 : Array (Option Value)} {oc4 kV4 dc4 pm4 cd4 ct4 : Value}
    {p5 : Addr} {od5 an5 : Option Addr} {sl5 : Array (Option Value)} {oc5 kV5 dc5 pm5 cd5 ct5 : Value}
    {p6 : Addr} {od6 an6 : Option Addr} {sl6 : Array (Option Value)} {oc6 kV6 dc6 pm6 cd6 ct6 : Value}
    {p7 : Addr} {od7 an7 : Option Addr} {sl7 : Array (Option Value)} {oc7 kV7 dc7 pm7 cd7 ct7 : Value}
    {p8 : Addr} {od8 an8 : Option Addr} {sl8 : Array (Option Value)} {oc8 kV8 dc8 pm8 cd8 ct8 : Value}
    {p9 : Addr} {od9 an9 : Option Addr} {sl9 : Array (Option Value)} {oc9 kV9 dc9 pm9 cd9 ct9 : Value}
    {p10 : Addr} {od10 an10 : Option Addr} {sl10 : Array (Option Value)} {oc10 kV10 dc10 pm10 cd10 ct10 : Value}
    {p11 : Addr} {od11 an11 : Option Addr} {sl11 : Array (Option Value)} {oc11 kV11 dc11 pm11 cd11 ct11 : Value}
    {p12 : Addr} {od12 an12 : Option Addr} {sl12 : Array (Option Value)} {oc12 kV12 dc12 pm12 cd12 ct12 : Value}
    {p13 : Addr} {od13 an13 : Option Addr} {sl13 : Array (Option Value)} {oc13 kV13 dc13 pm13 cd13 ct13 : Value}
    {p14 : Addr} {od14 an14 : Option Addr} {sl14 : Array (Option Value)} {oc14 kV14 dc14 pm14 cd14 ct14 : Value}
    {p15 : Addr} {od15 an15 : Option Addr} {sl15 : Array (Option Value)} {oc15 kV15 dc15 pm15 cd15 ct15 : Value}
    {p16 : Addr} {od16 an16 : Option Addr} {sl16 : Array (Option Value)} {oc16 kV16 dc16 pm16 cd16 ct16 : Value}
    {p17 : Addr} {od17 an17 : Option Addr} {sl17 : Array (Option Value)} {oc17 kV17 dc17 pm17 cd17 ct17 : Value}
    {p18 : Addr} {od18 an18 : Option Addr} {sl18 : Array (Option Value)} {oc18 kV18 dc18 pm18 cd18 ct18 : Value}
    {p19 : Addr} {od19 an19 : Option Addr} {sl19 : Array (Option Value)} {oc19 kV19 dc19 pm19 cd19 ct19 : Value}
    {p20 : Addr} {od20 an20 : Option Addr} {sl20 : Array (Option Value)} {oc20 kV20 dc20 pm20 cd20 ct20 : Value}
    {p21 : Addr} {od21 an21 : Option Addr} {sl21 : Array (Option Value)} {oc21 kV21 dc21 pm21 cd21 ct21 : Value}
    {p22 : Addr} {od22 an22 : Option Addr} {sl22 : Array (Option Value)} {oc22 kV22 dc22 pm22 cd22 ct22 : Value}
    {p23 : Addr} {od23 an23 : Option Addr} {sl23 : Array (Option Value)} {oc23 kV23 dc23 pm23 cd23 ct23 : Value}
    {p24 : Addr} {od24 an24 : Option Addr} {sl24 : Array (Option Value)} {oc24 kV24 dc24 pm24 cd24 ct24 : Value}
    {p25 : Addr} {od25 an25 : Option Addr} {sl25 : Array (Option Value)} {oc25 kV25 dc25 pm25 cd25 ct25 : Value}
    {p26 : Addr} {od26 an26 : Option Addr} {sl26 : Array (Option Value)} {oc26 kV26 dc26 pm26 cd26 ct26 : Value}
    {p27 : Addr} {od27 an27 : Option Addr} {sl27 : Array (Option Value)} {oc27 kV27 dc27 pm27 cd27 ct27 : Value}
    {tk0 : Tok}
    {tk1 : Tok}
    {tk2 : Tok}
    (a0 : PySem.W.nsIn K mainGlobals "_law_next" = some (some (.ref p0))) (l0 : K.lookup p0 = some ⟨oc0, od0, .func (PySem.W.fnOf "_law_next" "_law_next" (defArgs s__law_next) (defBody s__law_next) (defScope s__law_next) .none kV0 dc0 pm0 an0 cd0 ct0), sl0⟩) (c0 : PySem.W.codeIn K cd0 "_law_next" = true) (k0 : PySem.W.keepIn K (.ref p0) = true)
    (a1 : PySem.W.nsIn K mainGlobals "_law_shuffled" = some (some (.ref p1))) (l1 : K.lookup p1 = some ⟨oc1, od1, .func (PySem.W.fnOf "_law_shuffled" "_law_shuffled" (defArgs s__law_shuffled) (defBody s__law_shuffled) (defScope s__law_shuffled) .none kV1 dc1 pm1 an1 cd1 ct1), sl1⟩) (c1 : PySem.W.codeIn K cd1 "_law_shuffled" = true) (k1 : PySem.W.keepIn K (.ref p1) = true)
    (a2 : PySem.W.nsIn K mainGlobals "_law_all_pairs" = some (some (.ref p2))) (l2 : K.lookup p2 = some ⟨oc2, od2, .func (PySem.W.fnOf "_law_all_pairs" "_law_all_pairs" (defArgs s__law_all_pairs) (defBody s__law_all_pairs) (defScope s__law_all_pairs) .none kV2 dc2 pm2 an2 cd2 ct2), sl2⟩) (c2 : PySem.W.codeIn K cd2 "_law_all_pairs" = true) (k2 : PySem.W.keepIn K (.ref p2) = true)
    (a3 : PySem.W.nsIn K mainGlobals "_law_pair" = some (some (.ref p3))) (l3 : K.lookup p3 = some ⟨oc3, od3, .func (PySem.W.fnOf "_law_pair" "_law_pair" (defArgs s__law_pair) (defBody s__law_pair) (defScope s__law_pair) .none kV3 dc3 pm3 an3 cd3 ct3), sl3⟩) (c3 : PySem.W.codeIn K cd3 "_law_pair" = true) (k3 : PySem.W.keepIn K (.ref p3) = true)
    (a4 : PySem.W.nsIn K mainGlobals "_law_ring" = some (some (.ref p4))) (l4 : K.lookup p4 = some ⟨oc4, od4, .func (PySem.W.fnOf "_law_ring" "_law_ring" (defArgs s__law_ring) (defBody s__law_ring) (defScope s__law_ring) .none kV4 dc4 pm4 an4 cd4 ct4), sl4⟩) (c4 : PySem.W.codeIn K cd4 "_law_ring" = true) (k4 : PySem.W.keepIn K (.ref p4) = true)
    (a5 : PySem.W.nsIn K mainGlobals "_law_shape" = some (some (.ref p5))) (l5 : K.lookup p5 = some ⟨oc5, od5, .func (PySem.W.fnOf "_law_shape" "_law_shape" (defArgs s__law_shape) (defBody s__law_shape) (defScope s__law_shape) .none kV5 dc5 pm5 an5 cd5 ct5), sl5⟩) (c5 : PySem.W.codeIn K cd5 "_law_shape" = true) (k5 : PySem.W.keepIn K (.ref p5) = true)
    (a6 : PySem.W.nsIn K mainGlobals "_law_apart" = some (some (.ref p6))) (l6 : K.lookup p6 = some ⟨oc6, od6, .func (PySem.W.fnOf "_law_apart" "_law_apart" (defArgs s__law_apart) (defBody s__law_apart) (defScope s__law_apart) .none kV6 dc6 pm6 an6 cd6 ct6), sl6⟩) (c6 : PySem.W.codeIn K cd6 "_law_apart" = true) (k6 : PySem.W.keepIn K (.ref p6) = true)
    (a7 : PySem.W.nsIn K mainGlobals "_law_three_apart" = some (some (.ref p7))) (l7 : K.lookup p7 = some ⟨oc7, od7, .func (PySem.W.fnOf "_law_three_apart" "_law_three_apart" (defArgs s__law_three_apart) (defBody s__law_three_apart) (defScope s__law_three_apart) .none kV7 dc7 pm7 an7 cd7 ct7), sl7⟩) (c7 : PySem.W.codeIn K cd7 "_law_three_apart" = true) (k7 : PySem.W.keepIn K (.ref p7) = true)
    (a8 : PySem.W.nsIn K mainGlobals "_law_choices" = some (some (.ref p8))) (l8 : K.lookup p8 = some ⟨oc8, od8, .func (PySem.W.fnOf "_law_choices" "_law_choices" (defArgs s__law_choices) (defBody s__law_choices) (defScope s__law_choices) .none kV8 dc8 pm8 an8 cd8 ct8), sl8⟩) (c8 : PySem.W.codeIn K cd8 "_law_choices" = true) (k8 : PySem.W.keepIn K (.ref p8) = true)
    (a9 : PySem.W.nsIn K mainGlobals "_law_triangles" = some (some (.ref p9))) (l9 : K.lookup p9 = some ⟨oc9, od9, .func (PySem.W.fnOf "_law_triangles" "_law_triangles" (defArgs s__law_triangles) (defBody s__law_triangles) (defScope s__law_triangles) .none kV9 dc9 pm9 an9 cd9 ct9), sl9⟩) (c9 : PySem.W.codeIn K cd9 "_law_triangles" = true) (k9 : PySem.W.keepIn K (.ref p9) = true)
    (a10 : PySem.W.nsIn K mainGlobals "_law_bad" = some (some (.ref p10))) (l10 : K.lookup p10 = some ⟨oc10, od10, .func (PySem.W.fnOf "_law_bad" "_law_bad" (defArgs s__law_bad) (defBody s__law_bad) (defScope s__law_bad) .none kV10 dc10 pm10 an10 cd10 ct10), sl10⟩) (c10 : PySem.W.codeIn K cd10 "_law_bad" = true) (k10 : PySem.W.keepIn K (.ref p10) = true)
    (a11 : PySem.W.nsIn K mainGlobals "is_tuple" = some (some (.ref p11))) (l11 : K.lookup p11 = some ⟨oc11, od11, .func (PySem.W.fnOf "is_tuple" "is_tuple" (defArgs s_is_tuple) (defBody s_is_tuple) (defScope s_is_tuple) .none kV11 dc11 pm11 an11 cd11 ct11), sl11⟩) (c11 : PySem.W.codeIn K cd11 "is_tuple" = true) (k11 : PySem.W.keepIn K (.ref p11) = true)
    (a12 : PySem.W.nsIn K mainGlobals "is_within" = some (some (.ref p12))) (l12 : K.lookup p12 = some ⟨oc12, od12, .func (PySem.W.fnOf "is_within" "is_within" (defArgs s_is_within) (defBody s_is_within) (defScope s_is_within) .none kV12 dc12 pm12 an12 cd12 ct12), sl12⟩) (c12 : PySem.W.codeIn K cd12 "is_within" = true) (k12 : PySem.W.keepIn K (.ref p12) = true)
    (a13 : PySem.W.nsIn K mainGlobals "is_pair" = some (some (.ref p13))) (l13 : K.lookup p13 = some ⟨oc13, od13, .func (PySem.W.fnOf "is_pair" "is_pair" (defArgs s_is_pair) (defBody s_is_pair) (defScope s_is_pair) .none kV13 dc13 pm13 an13 cd13 ct13), sl13⟩) (c13 : PySem.W.codeIn K cd13 "is_pair" = true) (k13 : PySem.W.keepIn K (.ref p13) = true)
    (a14 : PySem.W.nsIn K mainGlobals "is_ascending" = some (some (.ref p14))) (l14 : K.lookup p14 = some ⟨oc14, od14, .func (PySem.W.fnOf "is_ascending" "is_ascending" (defArgs s_is_ascending) (defBody s_is_ascending) (defScope s_is_ascending) .none kV14 dc14 pm14 an14 cd14 ct14), sl14⟩) (c14 : PySem.W.codeIn K cd14 "is_ascending" = true) (k14 : PySem.W.keepIn K (.ref p14) = true)
    (a15 : PySem.W.nsIn K mainGlobals "is_shape" = some (some (.ref p15))) (l15 : K.lookup p15 = some ⟨oc15, od15, .func (PySem.W.fnOf "is_shape" "is_shape" (defArgs s_is_shape) (defBody s_is_shape) (defScope s_is_shape) .none kV15 dc15 pm15 an15 cd15 ct15), sl15⟩) (c15 : PySem.W.codeIn K cd15 "is_shape" = true) (k15 : PySem.W.keepIn K (.ref p15) = true)
    (a16 : PySem.W.nsIn K mainGlobals "need_shape" = some (some (.ref p16))) (l16 : K.lookup p16 = some ⟨oc16, od16, .func (PySem.W.fnOf "need_shape" "need_shape" (defArgs s_need_shape) (defBody s_need_shape) (defScope s_need_shape) .none kV16 dc16 pm16 an16 cd16 ct16), sl16⟩) (c16 : PySem.W.codeIn K cd16 "need_shape" = true) (k16 : PySem.W.keepIn K (.ref p16) = true)
    (a17 : PySem.W.nsIn K mainGlobals "many_points" = some (some (.ref p17))) (l17 : K.lookup p17 = some ⟨oc17, od17, .func (PySem.W.fnOf "many_points" "many_points" (defArgs s_many_points) (defBody s_many_points) (defScope s_many_points) .none kV17 dc17 pm17 an17 cd17 ct17), sl17⟩) (c17 : PySem.W.codeIn K cd17 "many_points" = true) (k17 : PySem.W.keepIn K (.ref p17) = true)
    (a18 : PySem.W.nsIn K mainGlobals "are_triangle" = some (some (.ref p18))) (l18 : K.lookup p18 = some ⟨oc18, od18, .func (PySem.W.fnOf "are_triangle" "are_triangle" (defArgs s_are_triangle) (defBody s_are_triangle) (defScope s_are_triangle) .none kV18 dc18 pm18 an18 cd18 ct18), sl18⟩) (c18 : PySem.W.codeIn K cd18 "are_triangle" = true) (k18 : PySem.W.keepIn K (.ref p18) = true)
    (a19 : PySem.W.nsIn K mainGlobals "triangles" = some (some (.ref p19))) (l19 : K.lookup p19 = some ⟨oc19, od19, .func (PySem.W.fnOf "triangles" "triangles" (defArgs s_triangles) (defBody s_triangles) (defScope s_triangles) .none kV19 dc19 pm19 an19 cd19 ct19), sl19⟩) (c19 : PySem.W.codeIn K cd19 "triangles" = true) (k19 : PySem.W.keepIn K (.ref p19) = true)
    (a20 : PySem.W.nsIn K mainGlobals "are_apart" = some (some (.ref p20))) (l20 : K.lookup p20 = some ⟨oc20, od20, .func (PySem.W.fnOf "are_apart" "are_apart" (defArgs s_are_apart) (defBody s_are_apart) (defScope s_are_apart) .none kV20 dc20 pm20 an20 cd20 ct20), sl20⟩) (c20 : PySem.W.codeIn K cd20 "are_apart" = true) (k20 : PySem.W.keepIn K (.ref p20) = true)
    (a21 : PySem.W.nsIn K mainGlobals "threes_apart" = some (some (.ref p21))) (l21 : K.lookup p21 = some ⟨oc21, od21, .func (PySem.W.fnOf "threes_apart" "threes_apart" (defArgs s_threes_apart) (defBody s_threes_apart) (defScope s_threes_apart) .none kV21 dc21 pm21 an21 cd21 ct21), sl21⟩) (c21 : PySem.W.codeIn K cd21 "threes_apart" = true) (k21 : PySem.W.keepIn K (.ref p21) = true)
    (a22 : PySem.W.nsIn K mainGlobals "is_enough" = some (some (.ref p22))) (l22 : K.lookup p22 = some ⟨oc22, od22, .func (PySem.W.fnOf "is_enough" "is_enough" (defArgs s_is_enough) (defBody s_is_enough) (defScope s_is_enough) .none kV22 dc22 pm22 an22 cd22 ct22), sl22⟩) (c22 : PySem.W.codeIn K cd22 "is_enough" = true) (k22 : PySem.W.keepIn K (.ref p22) = true)
    (a23 : PySem.W.nsIn K mainGlobals "may_join" = some (some (.ref p23))) (l23 : K.lookup p23 = some ⟨oc23, od23, .func (PySem.W.fnOf "may_join" "may_join" (defArgs s_may_join) (defBody s_may_join) (defScope s_may_join) .none kV23 dc23 pm23 an23 cd23 ct23), sl23⟩) (c23 : PySem.W.codeIn K cd23 "may_join" = true) (k23 : PySem.W.keepIn K (.ref p23) = true)
    (a24 : PySem.W.nsIn K mainGlobals "_law_is_integer" = some (some (.ref p24))) (l24 : K.lookup p24 = some ⟨oc24, od24, .func (PySem.W.fnOf "_law_is_integer" "_law_is_integer" (defArgs s__law_is_integer) (defBody s__law_is_integer) (defScope s__law_is_integer) .none kV24 dc24 pm24 an24 cd24 ct24), sl24⟩) (c24 : PySem.W.codeIn K cd24 "_law_is_integer" = true) (k24 : PySem.W.keepIn K (.ref p24) = true)
    (a25 : PySem.W.nsIn K mainGlobals "_law_equal" = some (some (.ref p25))) (l25 : K.lookup p25 = some ⟨oc25, od25, .func (PySem.W.fnOf "_law_equal" "_law_equal" (defArgs s__law_equal) (defBody s__law_equal) (defScope s__law_equal) .none kV25 dc25 pm25 an25 cd25 ct25), sl25⟩) (c25 : PySem.W.codeIn K cd25 "_law_equal" = true) (k25 : PySem.W.keepIn K (.ref p25) = true)
    (a26 : PySem.W.nsIn K mainGlobals "_law_stream" = some (some (.ref p26))) (l26 : K.lookup p26 = some ⟨oc26, od26, .func (PySem.W.fnOf "_law_stream" "_law_stream" (defArgs s__law_stream) (defBody s__law_stream) (defScope s__law_stream) .none kV26 dc26 pm26 an26 cd26 ct26), sl26⟩) (c26 : PySem.W.codeIn K cd26 "_law_stream" = true) (k26 : PySem.W.keepIn K (.ref p26) = true)
    (a27 : PySem.W.nsIn K mainGlobals "law" = some (some (.ref p27))) (l27 : K.lookup p27 = some ⟨oc27, od27, .func (PySem.W.fnOf "law" "law" (defArgs s_law) (defBody s_law) (defScope s_law) .none kV27 dc27 pm27 an27 cd27 ct27), sl27⟩) (c27 : PySem.W.codeIn K cd27 "law" = true) (k27 : PySem.W.keepIn K (.ref p27) = true)
    (z0 : PySem.W.nsIn K mainGlobals "MOST_PAIRS" = some (some (.int 10 tk0)))
    (z1 : PySem.W.nsIn K mainGlobals "MOST_POINTS" = some (some (.int 7 tk1)))
    (z2 : PySem.W.nsIn K mainGlobals "LEAST_POINTS" = some (some (.int 2 tk2)))
    (b0 : PySem.W.nsIn K mainGlobals "abs" = some none)
    (b1 : PySem.W.nsIn K mainGlobals "int" = some none)
    (b2 : PySem.W.nsIn K mainGlobals "len" = some none)
    (b3 : PySem.W.nsIn K mainGlobals "list" = some none)
    (b4 : PySem.W.nsIn K mainGlobals "range" = some none)
    (b5 : PySem.W.nsIn K mainGlobals "max" = some none)
    (b6 : PySem.W.nsIn K mainGlobals "min" = some none)
    (b7 : PySem.W.nsIn K mainGlobals "sorted" = some none)
    (b8 : PySem.W.nsIn K mainGlobals "tuple" = some none)
    (b9 : PySem.W.nsIn K mainGlobals "type" = some none)
    (b10 : PySem.W.nsIn K mainGlobals "all" = some none)
    (b11 : PySem.W.nsIn K mainGlobals "zip" = some none)
    (b12 : PySem.W.nsIn K mainGlobals "combinations" = some (some (.type "itertools.combinations")))
    (b13 : PySem.W.nsIn K mainGlobals "bool" = some none)
    (b14 : PySem.W.nsIn K mainGlobals "isinstance" = some none)
    (b15 : PySem.W.nsIn K mainGlobals "str" = some none) :
    ∃ fd : FuncData, (∀ (s : Shared) (v : Value), BindsTo s fd ⟨[v], []⟩ [("script", v)]) ∧ ∀ base : Heap, K.In base → base.Ns mainGlobals mg → FnOk P w K mg base CX0 LV fa fd ["script"] (spLaw K) := by
  have e := hfa.symm.trans (PySem.W.mg_of X G a27)
  cases e
  have F0 := fun_mk (st := s__law_next) l0 c0 k0
  have B0 := F0.binds (ps := ["stream", "many"]) fun _ _ _ _ _ _ us hl => match us, hl with | [_, _], _ => rfl
  have F1 := fun_mk (st := s__law_shuffled) l1 c1 k1
  have B1 := F1.binds (ps := ["stream", "many"]) fun _ _ _ _ _ _ us hl => match us, hl with | [_, _], _ => rfl
  have F2 := fun_mk (st := s__law_all_pairs) l2 c2 k2
  have B2 := F2.binds (ps := ["points"]) fun _ _ _ _ _ _ us hl => match us, hl with | [_], _ => rfl
  have F3 := fun_mk (st := s__law_pair) l3 c3 k3
  have B3 := F3.binds (ps := ["one", "other"]) fun _ _ _ _ _ _ us hl => match us, hl with | [_, _], _ => rfl
  have F4 := fun_mk (st := s__law_ring) l4 c4 k4
  have B4 := F4.binds (ps := ["points"]) fun _ _ _ _ _ _ us hl => match us, hl with | [_], _ => rfl
  have F5 := fun_mk (st := s__law_shape) l5 c5 k5
  have B5 := F5.binds (ps := ["stream"]) fun _ _ _ _ _ _ us hl => match us, hl with | [_], _ => rfl
  have F6 := fun_mk (st := s__law_apart) l6 c6 k6
  have B6 := F6.binds (ps := ["one", "other"]) fun _ _ _ _ _ _ us hl => match us, hl with | [_, _], _ => rfl
  have F7 := fun_mk (st := s__law_three_apart) l7 c7 k7
  have B7 := F7.binds (ps := ["shape"]) fun _ _ _ _ _ _ us hl => match us, hl with | [_], _ => rfl
  have F8 := fun_mk (st := s__law_choices) l8 c8 k8
  have B8 := F8.binds (ps := ["items", "many"]) fun _ _ _ _ _ _ us hl => match us, hl with | [_, _], _ => rfl
  have F9 := fun_mk (st := s__law_triangles) l9 c9 k9
  have B9 := F9.binds (ps := ["shape"]) fun _ _ _ _ _ _ us hl => match us, hl with | [_], _ => rfl
  have F10 := fun_mk (st := s__law_bad) l10 c10 k10
  have B10 := F10.binds (ps := ["shape"]) fun _ _ _ _ _ _ us hl => match us, hl with | [_], _ => rfl
  have F11 := fun_mk (st := s_is_tuple) l11 c11 k11
  have B11 := F11.binds (ps := ["value", "least", "most"]) fun _ _ _ _ _ _ us hl => match us, hl with | [_, _, _], _ => rfl
  have F12 := fun_mk (st := s_is_within) l12 c12 k12
  have B12 := F12.binds (ps := ["value", "least", "most"]) fun _ _ _ _ _ _ us hl => match us, hl with | [_, _, _], _ => rfl
  have F13 := fun_mk (st := s_is_pair) l13 c13 k13
  have B13 := F13.binds (ps := ["value", "points"]) fun _ _ _ _ _ _ us hl => match us, hl with | [_, _], _ => rfl
  have F14 := fun_mk (st := s_is_ascending) l14 c14 k14
  have B14 := F14.binds (ps := ["items"]) fun _ _ _ _ _ _ us hl => match us, hl with | [_], _ => rfl
  have F15 := fun_mk (st := s_is_shape) l15 c15 k15
  have B15 := F15.binds (ps := ["value"]) fun _ _ _ _ _ _ us hl => match us, hl with | [_], _ => rfl
  have F16 := fun_mk (st := s_need_shape) l16 c16 k16
  have B16 := F16.binds (ps := ["shape"]) fun _ _ _ _ _ _ us hl => match us, hl with | [_], _ => rfl
  have F17 := fun_mk (st := s_many_points) l17 c17 k17
  have B17 := F17.binds (ps := ["pairs"]) fun _ _ _ _ _ _ us hl => match us, hl with | [_], _ => rfl
  have F18 := fun_mk (st := s_are_triangle) l18 c18 k18
  have B18 := F18.binds (ps := ["pairs"]) fun _ _ _ _ _ _ us hl => match us, hl with | [_], _ => rfl
  have F19 := fun_mk (st := s_triangles) l19 c19 k19
  have B19 := F19.binds (ps := ["shape"]) fun _ _ _ _ _ _ us hl => match us, hl with | [_], _ => rfl
  have F20 := fun_mk (st := s_are_apart) l20 c20 k20
  have B20 := F20.binds (ps := ["pairs"]) fun _ _ _ _ _ _ us hl => match us, hl with | [_], _ => rfl
  have F21 := fun_mk (st := s_threes_apart) l21 c21 k21
  have B21 := F21.binds (ps := ["shape"]) fun _ _ _ _ _ _ us hl => match us, hl with | [_], _ => rfl
  have F22 := fun_mk (st := s_is_enough) l22 c22 k22
  have B22 := F22.binds (ps := ["shape"]) fun _ _ _ _ _ _ us hl => match us, hl with | [_], _ => rfl
  have F23 := fun_mk (st := s_may_join) l23 c23 k23
  have B23 := F23.binds (ps := ["shape", "points"]) fun _ _ _ _ _ _ us hl => match us, hl with | [_, _], _ => rfl
  have F24 := fun_mk (st := s__law_is_integer) l24 c24 k24
  have B24 := F24.binds (ps := ["actual"]) fun _ _ _ _ _ _ us hl => match us, hl with | [_], _ => rfl
  have F25 := fun_mk (st := s__law_equal) l25 c25 k25
  have B25 := F25.binds (ps := ["actual", "due"]) fun _ _ _ _ _ _ us hl => match us, hl with | [_, _], _ => rfl
  have F26 := fun_mk (st := s__law_stream) l26 c26 k26
  have B26 := F26.binds (ps := ["script"]) fun _ _ _ _ _ _ us hl => match us, hl with | [_], _ => rfl
  have F27 := fun_mk (st := s_law) l27 c27 k27
  have B27 := F27.binds (ps := ["script"]) fun _ _ _ _ _ _ us hl => match us, hl with | [_], _ => rfl
  refine ⟨PySem.W.fnOf "law" "law" (defArgs s_law) (defBody s_law) (defScope s_law) .none kV27 dc27 pm27 an27 cd27 ct27, fun s v => .of_eq rfl, fun base _ _ => ?_⟩
  have t0 : TOk P w K mg base T0 bts 0 := by
    refine ⟨fun f φ e => (by cases e), fun x i e => ?_, fun b hb => ?_⟩
    · unfold T0 at e
      dsimp only at e
      split at e
      · rename_i hx; subst hx; cases e; exact ⟨_, PySem.W.mg_of X G z0⟩
      split at e
      · rename_i hx; subst hx; cases e; exact ⟨_, PySem.W.mg_of X G z1⟩
      split at e
      · rename_i hx; subst hx; cases e; exact ⟨_, PySem.W.mg_of X G z2⟩
      cases e
    · simp only [bts, List.mem_cons, List.not_mem_nil, or_false] at hb
      rcases hb with rfl | rfl | rfl | rfl | rfl | rfl | rfl | rfl | rfl | rfl | rfl | rfl | rfl | rfl | rfl | rfl
      · exact (PySem.W.mg_none_of X G b0).trans (by decide)
      · exact (PySem.W.mg_none_of X G b1).trans (by decide)
      · exact (PySem.W.mg_none_of X G b2).trans (by decide)
      · exact (PySem.W.mg_none_of X G b3).trans (by decide)
      · exact (PySem.W.mg_none_of X G b4).trans (by decide)
      · exact (PySem.W.mg_none_of X G b5).trans (by decide)
      · exact (PySem.W.mg_none_of X G b6).trans (by decide)
      · exact (PySem.W.mg_none_of X G b7).trans (by decide)
      · exact (PySem.W.mg_none_of X G b8).trans (by decide)
      · exact (PySem.W.mg_none_of X G b9).trans (by decide)
      · exact (PySem.W.mg_none_of X G b10).trans (by decide)
      · exact (PySem.W.mg_none_of X G b11).trans (by decide)
      · exact (PySem.W.mg_of X G b12).trans (by decide)
      · exact (PySem.W.mg_none_of X G b13).trans (by decide)
      · exact (PySem.W.mg_none_of X G b14).trans (by decide)
      · exact (PySem.W.mg_none_of X G b15).trans (by decide)
  have qt1 := def_ok t0 F0 sc__law_next k__law_next
  have t1 : TOk P w K mg base T1 bts 1 := (t0.le (Nat.le_succ 0)).add (φ := f__law_next) rfl (PySem.W.mg_of X G a0) k0 B0 qt1
  have qt2 := def_ok t1 F1 sc__law_shuffled k__law_shuffled
  have t2 : TOk P w K mg base T2 bts 2 := (t1.le (Nat.le_succ 1)).add (φ := f__law_shuffled) rfl (PySem.W.mg_of X G a1) k1 B1 qt2
  have qt3 := def_ok t2 F2 sc__law_all_pairs k__law_all_pairs
  have t3 : TOk P w K mg base T3 bts 3 := (t2.le (Nat.le_succ 2)).add (φ := f__law_all_pairs) rfl (PySem.W.mg_of X G a2) k2 B2 qt3
  have qt4 := def_ok t3 F3 sc__law_pair k__law_pair
  have t4 : TOk P w K mg base T4 bts 4 := (t3.le (Nat.le_succ 3)).add (φ := f__law_pair) rfl (PySem.W.mg_of X G a3) k3 B3 qt4
  have qt5 := def_ok t4 F4 sc__law_ring k__law_ring
  have t5 : TOk P w K mg base T5 bts 5 := (t4.le (Nat.le_succ 4)).add (φ := f__law_ring) rfl (PySem.W.mg_of X G a4) k4 B4 qt5
  have qt6 := def_ok t5 F5 sc__law_shape k__law_shape
  have t6 : TOk P w K mg base T6 bts 6 := (t5.le (Nat.le_succ 5)).add (φ := f__law_shape) rfl (PySem.W.mg_of X G a5) k5 B5 qt6
  have qt7 := def_ok t6 F6 sc__law_apart k__law_apart
  have t7 : TOk P w K mg base T7 bts 7 := (t6.le (Nat.le_succ 6)).add (φ := f__law_apart) rfl (PySem.W.mg_of X G a6) k6 B6 qt7
  have qt8 := def_ok t7 F7 sc__law_three_apart k__law_three_apart
  have t8 : TOk P w K mg base T8 bts 8 := (t7.le (Nat.le_succ 7)).add (φ := f__law_three_apart) rfl (PySem.W.mg_of X G a7) k7 B7 qt8
  have qt9 := def_ok t8 F8 sc__law_choices k__law_choices
  have t9 : TOk P w K mg base T9 bts 9 := (t8.le (Nat.le_succ 8)).add (φ := f__law_choices) rfl (PySem.W.mg_of X G a8) k8 B8 qt9
  have qt10 := def_ok t9 F9 sc__law_triangles k__law_triangles
  have t10 : TOk P w K mg base T10 bts 10 := (t9.le (Nat.le_succ 9)).add (φ := f__law_triangles) rfl (PySem.W.mg_of X G a9) k9 B9 qt10
  have qt11 := def_ok t10 F10 sc__law_bad k__law_bad
  have t11 : TOk P w K mg base T11 bts 11 := (t10.le (Nat.le_succ 10)).add (φ := f__law_bad) rfl (PySem.W.mg_of X G a10) k10 B10 qt11
  have qt12 := def_ok t11 F11 sc_is_tuple k_is_tuple
  have t12 : TOk P w K mg base T12 bts 12 := (t11.le (Nat.le_succ 11)).add (φ := f_is_tuple) rfl (PySem.W.mg_of X G a11) k11 B11 qt12
  have qt13 := def_ok t12 F12 sc_is_within k_is_within
  have t13 : TOk P w K mg base T13 bts 13 := (t12.le (Nat.le_succ 12)).add (φ := f_is_within) rfl (PySem.W.mg_of X G a12) k12 B12 qt13
  have qt14 := def_ok t13 F13 sc_is_pair k_is_pair
  have t14 : TOk P w K mg base T14 bts 14 := (t13.le (Nat.le_succ 13)).add (φ := f_is_pair) rfl (PySem.W.mg_of X G a13) k13 B13 qt14
  have qt15 := def_ok t14 F14 sc_is_ascending k_is_ascending
  have t15 : TOk P w K mg base T15 bts 15 := (t14.le (Nat.le_succ 14)).add (φ := f_is_ascending) rfl (PySem.W.mg_of X G a14) k14 B14 qt15
  have qt16 := def_ok t15 F15 sc_is_shape k_is_shape
  have t16 : TOk P w K mg base T16 bts 16 := (t15.le (Nat.le_succ 15)).add (φ := f_is_shape) rfl (PySem.W.mg_of X G a15) k15 B15 qt16
  have qt17 := def_ok t16 F16 sc_need_shape k_need_shape
  have t17 : TOk P w K mg base T17 bts 17 := (t16.le (Nat.le_succ 16)).add (φ := f_need_shape) rfl (PySem.W.mg_of X G a16) k16 B16 qt17
  have qt18 := def_ok t17 F17 sc_many_points k_many_points
  have t18 : TOk P w K mg base T18 bts 18 := (t17.le (Nat.le_succ 17)).add (φ := f_many_points) rfl (PySem.W.mg_of X G a17) k17 B17 qt18
  have qt19 := def_ok t18 F18 sc_are_triangle k_are_triangle
  have t19 : TOk P w K mg base T19 bts 19 := (t18.le (Nat.le_succ 18)).add (φ := f_are_triangle) rfl (PySem.W.mg_of X G a18) k18 B18 qt19
  have qt20 := def_ok t19 F19 sc_triangles k_triangles
  have t20 : TOk P w K mg base T20 bts 20 := (t19.le (Nat.le_succ 19)).add (φ := f_triangles) rfl (PySem.W.mg_of X G a19) k19 B19 qt20
  have qt21 := def_ok t20 F20 sc_are_apart k_are_apart
  have t21 : TOk P w K mg base T21 bts 21 := (t20.le (Nat.le_succ 20)).add (φ := f_are_apart) rfl (PySem.W.mg_of X G a20) k20 B20 qt21
  have qt22 := def_ok t21 F21 sc_threes_apart k_threes_apart
  have t22 : TOk P w K mg base T22 bts 22 := (t21.le (Nat.le_succ 21)).add (φ := f_threes_apart) rfl (PySem.W.mg_of X G a21) k21 B21 qt22
  have qt23 := def_ok t22 F22 sc_is_enough k_is_enough
  have t23 : TOk P w K mg base T23 bts 23 := (t22.le (Nat.le_succ 22)).add (φ := f_is_enough) rfl (PySem.W.mg_of X G a22) k22 B22 qt23
  have qt24 := def_ok t23 F23 sc_may_join k_may_join
  have t24 : TOk P w K mg base T24 bts 24 := (t23.le (Nat.le_succ 23)).add (φ := f_may_join) rfl (PySem.W.mg_of X G a23) k23 B23 qt24
  have qt25 := def_ok t24 F24 sc__law_is_integer k__law_is_integer
  have t25 : TOk P w K mg base T25 bts 25 := (t24.le (Nat.le_succ 24)).add (φ := f__law_is_integer) rfl (PySem.W.mg_of X G a24) k24 B24 qt25
  have t26 : TOk P w K mg base T26 bts 29 := rec_ok (ps := ["actual", "due"]) t25 F25 sc__law_equal k__law_equal (PySem.W.mg_of X G a25) k25 B25 3
  have hs := stream_ok (P := P) (w := w) (mg := mg) (base := base) F26 sc__law_stream (PySem.W.mg_none_of X G b3) rfl rfl rfl
  exact law_ok t26 F27 sc_law hs B26 (PySem.W.mg_of X G a26) k26 (by decide) rfl rfl rfl rfl k_law (rest_ok tk)
theorem walk {l : PySem.W.OpenLaw} {q : Program} {loose : List Str} {XP : (Str → Option Value) → Heap → Prop} {YP : World → Heap → Prop} {d : DefRec} {K : Params → PySem.W.Frag} (hn : l.most = some 63) (hdf : d.params.defaults = [])
    (hY : ∀ (w : World) (h : Heap), YP w h → (K w.params).In h)
    (F : ∀ (w : World) (mg : Str → Option Value) (fa : Addr) (h : Heap), (K w.params).In h → h.Ns mainGlobals mg → mg d.name = some (.ref fa) →
      ∃ fd : FuncData, (∀ (s : Shared) (u : Value), BindsTo s fd ⟨[u], []⟩ [("script", u)]) ∧ ∀ base : Heap, (K w.params).In base → base.Ns mainGlobals mg → FnOk l.prog w (K w.params) mg base CX0 LV fa fd ["script"] (spLaw (K w.params))) :
    PySem.W.WalkO q loose XP YP l.row.toRowW d [] (fun f vs => PySem.call f vs) :=
  L2.walk_of (n := 63) (k := LV) (x := "script") (CX := fun _ => CX0) (sp := fun w => spLaw (K w.params)) hn (by decide) hdf ⟨rfl, by decide, by decide⟩ hY F (fun _ _ a ns hl _ hS => ⟨a, ns, rfl, hS, hl, fun _ => rfl⟩) fun _ _ _ _ _ z => z
end K25
open PySem PySem.W PyProof.Rows
set_option maxRecDepth 100000 in
set_option maxHeartbeats 0 in
theorem PySem.Challenge.cw_wishshapes_k25_whole_pairs_that_may_join_holds : PySem.Challenge.rw_wishshapes_k25_whole_pairs_that_may_join.Holds := by
  w_on; o_law; k_head; (case hw => w_witness2)
  k_fill
  refine K25.walk (l := PySem.Challenge.rw_wishshapes_k25_whole_pairs_that_may_join) rfl rfl (fun w h Y => PySem.W.kIn_of Y) ?F
  case F =>
    intro w mg fa h KX G hmg
    refine' K25.all_mk KX G hmg ?a0 ?l0 ?c0 ?k0 ?a1 ?l1 ?c1 ?k1 ?a2 ?l2 ?c2 ?k2 ?a3 ?l3 ?c3 ?k3 ?a4 ?l4 ?c4 ?k4 ?a5 ?l5 ?c5 ?k5 ?a6 ?l6 ?c6 ?k6 ?a7 ?l7 ?c7 ?k7 ?a8 ?l8 ?c8 ?k8 ?a9 ?l9 ?c9 ?k9 ?a10 ?l10 ?c10 ?k10 ?a11 ?l11 ?c11 ?k11 ?a12 ?l12 ?c12 ?k12 ?a13 ?l13 ?c13 ?k13 ?a14 ?l14 ?c14 ?k14 ?a15 ?l15 ?c15 ?k15 ?a16 ?l16 ?c16 ?k16 ?a17 ?l17 ?c17 ?k17 ?a18 ?l18 ?c18 ?k18 ?a19 ?l19 ?c19 ?k19 ?a20 ?l20 ?c20 ?k20 ?a21 ?l21 ?c21 ?k21 ?a22 ?l22 ?c22 ?k22 ?a23 ?l23 ?c23 ?k23 ?a24 ?l24 ?c24 ?k24 ?a25 ?l25 ?c25 ?k25 ?a26 ?l26 ?c26 ?k26 ?a27 ?l27 ?c27 ?k27 ?z0 ?z1 ?z2 ?b0 ?b1 ?b2 ?b3 ?b4 ?b5 ?b6 ?b7 ?b8 ?b9 ?b10 ?b11 ?b12 ?b13 ?b14 ?b15
    (case a0 => k_is); (case l0 => k_is); (case c0 => k_is); (case k0 => k_is); (case a1 => k_is); (case l1 => k_is)
    (case c1 => k_is); (case k1 => k_is); (case a2 => k_is); (case l2 => k_is); (case c2 => k_is); (case k2 => k_is)
    (case a3 => k_is); (case l3 => k_is); (case c3 => k_is); (case k3 => k_is); (case a4 => k_is); (case l4 => k_is)
    (case c4 => k_is); (case k4 => k_is); (case a5 => k_is); (case l5 => k_is); (case c5 => k_is); (case k5 => k_is)
    (case a6 => k_is); (case l6 => k_is); (case c6 => k_is); (case k6 => k_is); (case a7 => k_is); (case l7 => k_is)
    (case c7 => k_is); (case k7 => k_is); (case a8 => k_is); (case l8 => k_is); (case c8 => k_is); (case k8 => k_is)
    (case a9 => k_is); (case l9 => k_is); (case c9 => k_is); (case k9 => k_is); (case a10 => k_is); (case l10 => k_is)
    (case c10 => k_is); (case k10 => k_is); (case a11 => k_is); (case l11 => k_is); (case c11 => k_is); (case k11 => k_is)
    (case a12 => k_is); (case l12 => k_is); (case c12 => k_is); (case k12 => k_is); (case a13 => k_is); (case l13 => k_is)
    (case c13 => k_is); (case k13 => k_is); (case a14 => k_is); (case l14 => k_is); (case c14 => k_is); (case k14 => k_is)
    (case a15 => k_is); (case l15 => k_is); (case c15 => k_is); (case k15 => k_is); (case a16 => k_is); (case l16 => k_is)
    (case c16 => k_is); (case k16 => k_is); (case a17 => k_is); (case l17 => k_is); (case c17 => k_is); (case k17 => k_is)
    (case a18 => k_is); (case l18 => k_is); (case c18 => k_is); (case k18 => k_is); (case a19 => k_is); (case l19 => k_is)
    (case c19 => k_is); (case k19 => k_is); (case a20 => k_is); (case l20 => k_is); (case c20 => k_is); (case k20 => k_is)
    (case a21 => k_is); (case l21 => k_is); (case c21 => k_is); (case k21 => k_is); (case a22 => k_is); (case l22 => k_is)
    (case c22 => k_is); (case k22 => k_is); (case a23 => k_is); (case l23 => k_is); (case c23 => k_is); (case k23 => k_is)
    (case a24 => k_is); (case l24 => k_is); (case c24 => k_is); (case k24 => k_is); (case a25 => k_is); (case l25 => k_is)
    (case c25 => k_is); (case k25 => k_is); (case a26 => k_is); (case l26 => k_is); (case c26 => k_is); (case k26 => k_is)
    (case a27 => k_is); (case l27 => k_is); (case c27 => k_is); (case k27 => k_is); (case z0 => k_is); (case z1 => k_is)
    (case z2 => k_is); (case b0 => k_is); (case b1 => k_is); (case b2 => k_is); (case b3 => k_is); (case b4 => k_is)
    (case b5 => k_is); (case b6 => k_is); (case b7 => k_is); (case b8 => k_is); (case b9 => k_is); (case b10 => k_is)
    (case b11 => k_is); (case b12 => k_is); (case b13 => k_is); (case b14 => k_is); (case b15 => k_is)


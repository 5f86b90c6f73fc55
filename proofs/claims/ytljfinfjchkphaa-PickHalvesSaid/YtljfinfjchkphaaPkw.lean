/-
  Layer 16's words: a list without a number, weights of those that are busy, what each call is to answer, as plain functions. Over no program.
-/
import Derived.Test.YtljfinfjchkphaaDcBoth
import Derived.Test.YtljfinfjchkphaaTnp
import Derived.Test.YtljfinfjchkphaaFlag
import Derived.Test.YtljfinfjchkphaaApp
import Derived.Test.YtljfinfjchkphaaQue
namespace Go.Proofs.Ytljfinfjchkphaa
open Go.RowKit

/-- A list without a number. -/
def butPk (l : List Int) (x : Int) : List Int := l.filter fun y => decide (y ≠ x)
theorem nth_memPk {l : List Int} {x : Int} : x ∈ l ↔ ∃ j, j < l.length ∧ nth l j = x := by
  rw [List.mem_iff_getElem]
  exact ⟨fun ⟨j, h, e⟩ => ⟨j, h, by rw [nth_get h]; exact e⟩, fun ⟨j, h, e⟩ => ⟨j, h, by rw [nth_get h] at e; exact e⟩⟩
theorem take_nextPk {l : List Int} {k : Nat} (h : k < l.length) : l.take (k + 1) = l.take k ++ [nth l k] := by rw [nth_get h]; exact (List.take_append_getElem h).symm
theorem but_nextPk {l : List Int} {k : Nat} (h : k < l.length) (x : Int) : butPk (l.take (k + 1)) x = if nth l k = x then butPk (l.take k) x else butPk (l.take k) x ++ [nth l k] := by
  rw [take_nextPk h]
  unfold butPk
  rw [List.filter_append]
  by_cases e : nth l k = x
  · simp [e]
  · simp [e]
theorem but_lenPk (l : List Int) (x : Int) : (butPk l x).length ≤ l.length := List.length_filter_le _ _
theorem but_memPk {l : List Int} {x y : Int} : y ∈ butPk l x ↔ y ∈ l ∧ y ≠ x := by simp [butPk]
theorem but_nonePk : ∀ {l : List Int} {x : Int}, x ∉ l → butPk l x = l := fun {l x} h => by
  unfold butPk
  rw [List.filter_eq_self]
  intro y hy
  simp
  rintro rfl
  exact h hy

/-- Where the first number of a list is of which g is so: -1 if there is none. -/
def AtPk (g : Int → Bool) (l : List Int) (r : Int) : Prop :=
  (r = -1 ∧ ∀ j, j < l.length → g (nth l j) = false) ∨ ∃ k : Nat, r = (k : Int) ∧ k < l.length ∧ g (nth l k) = true ∧ ∀ j, j < k → g (nth l j) = false
theorem AtPk.has {g : Int → Bool} {l : List Int} {r : Int} (h : AtPk g l r) : decide (0 ≤ r) = l.any g := by
  rcases h with ⟨rfl, h⟩ | ⟨k, rfl, hk, h, -⟩
  · symm
    rw [show decide ((0 : Int) ≤ -1) = false from rfl, List.any_eq_false]
    intro x hx
    obtain ⟨j, hj, rfl⟩ := nth_memPk.1 hx
    rw [h j hj]
    decide
  · symm
    rw [decide_eq_true (by omega), List.any_eq_true]
    exact ⟨nth l k, nth_memPk.2 ⟨k, hk, rfl⟩, h⟩

/-- Dice that may be, so many workers, and one of them. -/
def okVPk (N : Nat) (p n me : Int) : Prop := (0 ≤ p ∧ p ≤ N) ∧ (1 ≤ n ∧ n ≤ 64) ∧ 0 ≤ me ∧ me < n
instance (N : Nat) (p n me : Int) : Decidable (okVPk N p n me) := by unfold okVPk; exact inferInstance
/-- Victims' answer: who is asked, the dice's octets, how many of them are taken, the error. -/
def vicPk (bs : List Int) (N : Nat) (p n me : Int) : List Int × List Int × Int × Int :=
  if okVPk N p n me then (butPk (orderOf bs p.toNat n.toNat) me, bs, ((min (p.toNat + 2 * (n.toNat - 1)) N : Nat) : Int), 0) else ([], [], 0, 1)
theorem vicPk_no {bs : List Int} {N : Nat} {p n me : Int} (h : ¬ okVPk N p n me) : vicPk bs N p n me = ([], [], 0, 1) := if_neg h
theorem vicPk_ok {bs : List Int} {N : Nat} {p n me : Int} (h : okVPk N p n me) : vicPk bs N p n me = (butPk (orderOf bs p.toNat n.toNat) me, bs, ((min (p.toNat + 2 * (n.toNat - 1)) N : Nat) : Int), 0) := if_pos h

def negPk (hs : List Int) : Bool := hs.any fun x => decide (x < 0)
theorem negPk_yes {hs : List Int} {k : Nat} (hk : k < hs.length) (h : nth hs k < 0) : negPk hs = true := List.any_eq_true.2 ⟨nth hs k, nth_memPk.2 ⟨k, hk, rfl⟩, decide_eq_true h⟩
theorem negPk_no {hs : List Int} (h : ∀ k, k < hs.length → ¬ nth hs k < 0) : negPk hs = false := List.any_eq_false.2 fun x hx => by
  obtain ⟨k, hk, rfl⟩ := nth_memPk.1 hx
  rw [decide_eq_false (h k hk)]
  decide
theorem negPk_at {hs : List Int} (h : negPk hs = false) {k : Nat} (hk : k < hs.length) : ¬ nth hs k < 0 := by
  intro q
  rw [negPk_yes hk q] at h
  cases h
/-- One has something. -/
def hasPk (hs : List Int) (x : Int) : Bool := decide (0 < nth hs x.toNat)
/-- Steal's answer: of whom, the dice's octets, how many of them are taken, the error. -/
def stealPk (bs : List Int) (N : Nat) (hs : List Int) (n : Nat) (p me : Int) : Int × List Int × Int × Int :=
  if okVPk N p n me ∧ negPk hs = false then
    (match (butPk (orderOf bs p.toNat n) me).find? (hasPk hs) with
    | some x => (x, bs, ((min (p.toNat + 2 * (n - 1)) N : Nat) : Int), 0)
    | none => (0, [], 0, 5))
  else (0, [], 0, 1)
theorem stealPk_1 {bs : List Int} {N : Nat} {hs : List Int} {n : Nat} {p me : Int} (h : ¬ (okVPk N p n me ∧ negPk hs = false)) : stealPk bs N hs n p me = (0, [], 0, 1) := if_neg h
theorem find_nonePk {g : Int → Bool} : ∀ {l : List Int}, (∀ j, j < l.length → g (nth l j) = false) → l.find? g = none := fun {l} h => by
  rw [List.find?_eq_none]
  intro x hx
  obtain ⟨j, hj, rfl⟩ := nth_memPk.1 hx
  rw [h j hj]
  decide
theorem find_somePk {g : Int → Bool} : ∀ {l : List Int} {k : Nat}, k < l.length → g (nth l k) = true → (∀ j, j < k → g (nth l j) = false) → l.find? g = some (nth l k)
  | [], k, hk, _, _ => by simp at hk
  | x :: xs, 0, _, h, _ => by
    have h' : g x = true := h
    rw [List.find?_cons, h']
    rfl
  | x :: xs, k + 1, hk, h, ha => by
    have h' : g x = false := ha 0 (by omega)
    rw [List.find?_cons, h']
    exact find_somePk (l := xs) (by simpa using hk) h (fun j hj => ha (j + 1) (by omega))
theorem stealPk_5 {bs : List Int} {N : Nat} {hs : List Int} {n : Nat} {p me : Int} (h : okVPk N p n me) (hn : negPk hs = false) (ha : ∀ j, j < (butPk (orderOf bs p.toNat n) me).length → hasPk hs (nth (butPk (orderOf bs p.toNat n) me) j) = false) : stealPk bs N hs n p me = (0, [], 0, 5) := by
  unfold stealPk
  rw [if_pos ⟨h, hn⟩, find_nonePk ha]
theorem stealPk_0 {bs : List Int} {N : Nat} {hs : List Int} {n : Nat} {p me : Int} (h : okVPk N p n me) (hn : negPk hs = false) {k : Nat} (hk : k < (butPk (orderOf bs p.toNat n) me).length) (hg : hasPk hs (nth (butPk (orderOf bs p.toNat n) me) k) = true)
    (ha : ∀ j, j < k → hasPk hs (nth (butPk (orderOf bs p.toNat n) me) j) = false) : stealPk bs N hs n p me = (nth (butPk (orderOf bs p.toNat n) me) k, bs, ((min (p.toNat + 2 * (n - 1)) N : Nat) : Int), 0) := by
  unfold stealPk
  rw [if_pos ⟨h, hn⟩, find_somePk hk hg ha]

/-- The weights of those that are busy, 0 of the others. -/
def wtsPk (ts : List Tn) (fs : List Bool) : List Int := (List.range ts.length).map fun j => if bth fs j then (tth ts j).wt else 0
theorem wtsPk_len (ts : List Tn) (fs : List Bool) : (wtsPk ts fs).length = ts.length := by simp [wtsPk]
theorem wtsPk_at {ts : List Tn} {fs : List Bool} {j : Nat} (h : j < ts.length) : nth (wtsPk ts fs) j = if bth fs j then (tth ts j).wt else 0 := by simp [wtsPk, nth, List.getD, h]
/-- Lucky's answer. -/
def luckPk (bs : List Int) (N : Nat) (ts : List Tn) (fs : List Bool) (p : Int) : Int × List Int × Int × Int :=
  if (0 ≤ p ∧ p ≤ N) ∧ okLn ts ∧ fs.length = ts.length then
    (if weightE (wtsPk ts fs) = 0 then (((pick (wtsPk ts fs) (drawAt bs p.toNat % (wtsPk ts fs).sum) : Nat) : Int), bs, ((min (p.toNat + 2) N : Nat) : Int), 0) else (0, [], 0, weightE (wtsPk ts fs)))
  else (0, [], 0, 1)
theorem luckPk_1 {bs : List Int} {N : Nat} {ts : List Tn} {fs : List Bool} {p : Int} (h : ¬ ((0 ≤ p ∧ p ≤ N) ∧ okLn ts ∧ fs.length = ts.length)) : luckPk bs N ts fs p = (0, [], 0, 1) := if_neg h
theorem luckPk_e {bs : List Int} {N : Nat} {ts : List Tn} {fs : List Bool} {p : Int} (h : (0 ≤ p ∧ p ≤ N) ∧ okLn ts ∧ fs.length = ts.length) (hE : weightE (wtsPk ts fs) ≠ 0) : luckPk bs N ts fs p = (0, [], 0, weightE (wtsPk ts fs)) := by
  unfold luckPk; rw [if_pos h, if_neg hE]
theorem luckPk_0 {bs : List Int} {N : Nat} {ts : List Tn} {fs : List Bool} {p : Int} (h : (0 ≤ p ∧ p ≤ N) ∧ okLn ts ∧ fs.length = ts.length) (hE : weightE (wtsPk ts fs) = 0) :
    luckPk bs N ts fs p = (((pick (wtsPk ts fs) (drawAt bs p.toNat % (wtsPk ts fs).sum) : Nat) : Int), bs, ((min (p.toNat + 2) N : Nat) : Int), 0) := by
  unfold luckPk; rw [if_pos h, if_pos hE]

def halfPk (n : Int) : Int × Int := if n < 0 then (0, 1) else (n - n / 2, 0)
def spillPk (n : Int) : Int × Int := if n < 0 then (0, 1) else (n / 2, 0)

section
variable {w : World} {A : Option Addr} {n : Nat} {zs : List Int} {bs : List Bool}
theorem Ints.at_pk (h : Ints w A n zs) {k : Nat} (hk : k < n) : ∃ b o, A = some ⟨b, o, none⟩ ∧ b < w.heap.size ∧ w.cell? ⟨b, o + k, none⟩ = some (.int .i64 (nth zs k)) := by
  obtain ⟨b, o, e, hb, hc⟩ := h.2.2.2 (by omega)
  exact ⟨b, o, e, hb, hc k hk⟩
theorem Flags.at_pk (h : Flags w A n bs) {k : Nat} (hk : k < n) : ∃ b o, A = some ⟨b, o, none⟩ ∧ b < w.heap.size ∧ w.cell? ⟨b, o + k, none⟩ = some (.bool (bth bs k)) := by
  obtain ⟨b, o, e, hb, hc⟩ := h.2.2 (by omega)
  exact ⟨b, o, e, hb, hc k hk⟩
theorem Ints.fit_pk (h : Ints w A n zs) {k : Nat} (hk : k < n) : Fit (nth zs k) := by
  have hl := h.1
  rw [nth_get (by omega)]
  exact h.2.2.1 _ (List.getElem_mem _)
end

theorem OwnI.short_pk {E : TypeId} {w : World} {base : Nat} {A : Option Addr} {c : Nat} {zs : List Int} (h : OwnI E w base A c zs) {k : Nat} (hk : k ≤ zs.length) (hA : A ≠ none) : OwnI E w base A c (zs.take k) := by
  obtain ⟨h1, h2, h3, h4⟩ := h
  have hl : (zs.take k).length = k := by rw [List.length_take]; omega
  refine ⟨by rw [hl]; omega, fun z hz => h2 z (List.mem_of_mem_take hz), by simp, ?_⟩
  rcases h4 with ⟨e, _⟩ | ⟨g, cap, cur, e, hb, hh, hc, hm, hs, ht⟩
  · injection e with e _ _
    exact absurd e hA
  · injection e with e1 e2 e3
    subst e1 e3
    refine .inr ⟨g, c, cur, by rw [hl], hb, hh, by omega, hm, hs, ?_⟩
    rw [hl, List.map_take, ← ht, List.take_take, Nat.min_eq_left (by omega), Nat.mul_one]

theorem OwnI.setOut_pk {E : TypeId} {base g c : Nat} {zs : List Int} : ∀ (vs : List Value) (o : Nat) (w : World), zs.length ≤ o → OwnI E w base (some ⟨g, 0, none⟩) c zs → OwnI E (w.setCells g o vs) base (some ⟨g, 0, none⟩) c zs
  | [], _, _, _, h => h
  | v :: vs, o, w, ho, h => by
    have h' : OwnI E (w.setCell ⟨g, o, none⟩ v) base (some ⟨g, 0, none⟩) c zs := by
      refine ⟨h.1, h.2.1, ?_⟩
      have := (h.2.2.stored o v).1
      rwa [List.set_eq_of_length_le (by simpa using ho)] at this
    exact OwnI.setOut_pk vs (o + 1) _ (by omega) h'

/-- What DeleteFunc's row holds between two rounds: those that stay, and behind j all as before. -/
structure DelPk (l : List Int) (x : Int) (i j : Nat) (dk : List Int) : Prop where
  len : dk.length = l.length
  lt : i < j
  le : j ≤ l.length
  kept : dk.take i = butPk (l.take j) x
  high : ∀ t, j ≤ t → nth dk t = nth l t
theorem DelPk.start {l : List Int} {x : Int} {k : Nat} (h1 : k < l.length) (h2 : nth l k = x) (h3 : ∀ j, j < k → nth l j ≠ x) : DelPk l x k (k + 1) l := by
  refine ⟨rfl, Nat.lt_succ_self _, h1, ?_, fun _ _ => rfl⟩
  rw [but_nextPk h1, if_pos h2, but_nonePk]
  intro hm
  obtain ⟨j, hj, e⟩ := nth_memPk.1 hm
  rw [List.length_take] at hj
  have hjk : j < k := by omega
  have e2 : nth l j = nth (l.take k) j := by rw [nth_get (show j < l.length by omega), nth_get (show j < (l.take k).length by rw [List.length_take]; omega), List.getElem_take]
  exact h3 j hjk (e2.trans e)
theorem DelPk.skip {l dk : List Int} {x : Int} {i j : Nat} (h : DelPk l x i j dk) (hj : j < l.length) (he : nth l j = x) : DelPk l x i (j + 1) dk :=
  ⟨h.len, by have := h.lt; omega, hj, by rw [but_nextPk hj, if_pos he]; exact h.kept, fun t ht => h.high t (by omega)⟩
theorem DelPk.keep {l dk : List Int} {x : Int} {i j : Nat} (h : DelPk l x i j dk) (hj : j < l.length) (he : nth l j ≠ x) : DelPk l x (i + 1) (j + 1) (dk.set i (nth l j)) := by
  have hi : i < dk.length := by have := h.lt; have := h.len; omega
  refine ⟨by simpa using h.len, by have := h.lt; omega, hj, ?_, fun t ht => ?_⟩
  · rw [but_nextPk hj, if_neg he, ← h.kept]
    rw [List.take_add_one]
    simp [hi, List.take_set_of_le]
  · by_cases htl : t < dk.length
    · rw [nth_set _ _ _ _ htl, if_neg (by have := h.lt; omega)]
      exact h.high t (by omega)
    · rw [nth_beyond (by simpa using Nat.le_of_not_lt htl), nth_beyond (by have := h.len; omega)]
theorem DelPk.done {l dk : List Int} {x : Int} {i j : Nat} (h : DelPk l x i j dk) (hj : l.length ≤ j) : dk.take i = butPk l x ∧ i = (butPk l x).length := by
  have hk := h.kept
  rw [List.take_of_length_le hj] at hk
  refine ⟨hk, ?_⟩
  rw [← hk, List.length_take]
  have := h.lt
  have := h.le
  have := h.len
  omega

end Go.Proofs.Ytljfinfjchkphaa

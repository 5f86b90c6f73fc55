/-
  A list without a number, where the first number is of which something is so, what DeleteFunc's row holds between two rounds: over no program (out of layer 16's words).
-/
import Derived.Test.YtmndkofdoclihaaApp
import Derived.Test.YtmndkofdoclihaaQue
import Derived.Test.YtmndkofdoclihaaFlag
namespace Go.Proofs.Ytmndkofdoclihaa
open Go.RowKit

/-- A list without a number. -/
def butBt (l : List Int) (x : Int) : List Int := l.filter fun y => decide (y ≠ x)
theorem nth_memBt {l : List Int} {x : Int} : x ∈ l ↔ ∃ j, j < l.length ∧ nth l j = x := by
  rw [List.mem_iff_getElem]
  exact ⟨fun ⟨j, h, e⟩ => ⟨j, h, by rw [nth_get h]; exact e⟩, fun ⟨j, h, e⟩ => ⟨j, h, by rw [nth_get h] at e; exact e⟩⟩
theorem take_nextBt {l : List Int} {k : Nat} (h : k < l.length) : l.take (k + 1) = l.take k ++ [nth l k] := by rw [nth_get h]; exact (List.take_append_getElem h).symm
theorem but_nextBt {l : List Int} {k : Nat} (h : k < l.length) (x : Int) : butBt (l.take (k + 1)) x = if nth l k = x then butBt (l.take k) x else butBt (l.take k) x ++ [nth l k] := by
  rw [take_nextBt h]
  unfold butBt
  rw [List.filter_append]
  by_cases e : nth l k = x
  · simp [e]
  · simp [e]
theorem but_lenBt (l : List Int) (x : Int) : (butBt l x).length ≤ l.length := List.length_filter_le _ _
theorem but_memBt {l : List Int} {x y : Int} : y ∈ butBt l x ↔ y ∈ l ∧ y ≠ x := by simp [butBt]
theorem but_noneBt : ∀ {l : List Int} {x : Int}, x ∉ l → butBt l x = l := fun {l x} h => by
  unfold butBt
  rw [List.filter_eq_self]
  intro y hy
  simp
  rintro rfl
  exact h hy

/-- Where the first number of a list is of which g is so: -1 if there is none. -/
def AtBt (g : Int → Bool) (l : List Int) (r : Int) : Prop :=
  (r = -1 ∧ ∀ j, j < l.length → g (nth l j) = false) ∨ ∃ k : Nat, r = (k : Int) ∧ k < l.length ∧ g (nth l k) = true ∧ ∀ j, j < k → g (nth l j) = false
theorem AtBt.has {g : Int → Bool} {l : List Int} {r : Int} (h : AtBt g l r) : decide (0 ≤ r) = l.any g := by
  rcases h with ⟨rfl, h⟩ | ⟨k, rfl, hk, h, -⟩
  · symm
    rw [show decide ((0 : Int) ≤ -1) = false from rfl, List.any_eq_false]
    intro x hx
    obtain ⟨j, hj, rfl⟩ := nth_memBt.1 hx
    rw [h j hj]
    decide
  · symm
    rw [decide_eq_true (by omega), List.any_eq_true]
    exact ⟨nth l k, nth_memBt.2 ⟨k, hk, rfl⟩, h⟩

section
variable {w : World} {A : Option Addr} {n : Nat} {zs : List Int} {bs : List Bool}
theorem Ints.at_bt (h : Ints w A n zs) {k : Nat} (hk : k < n) : ∃ b o, A = some ⟨b, o, none⟩ ∧ b < w.heap.size ∧ w.cell? ⟨b, o + k, none⟩ = some (.int .i64 (nth zs k)) := by
  obtain ⟨b, o, e, hb, hc⟩ := h.2.2.2 (by omega)
  exact ⟨b, o, e, hb, hc k hk⟩
theorem Flags.at_bt (h : Flags w A n bs) {k : Nat} (hk : k < n) : ∃ b o, A = some ⟨b, o, none⟩ ∧ b < w.heap.size ∧ w.cell? ⟨b, o + k, none⟩ = some (.bool (bth bs k)) := by
  obtain ⟨b, o, e, hb, hc⟩ := h.2.2 (by omega)
  exact ⟨b, o, e, hb, hc k hk⟩
theorem Ints.fit_bt (h : Ints w A n zs) {k : Nat} (hk : k < n) : Fit (nth zs k) := by
  have hl := h.1
  rw [nth_get (by omega)]
  exact h.2.2.1 _ (List.getElem_mem _)
end

theorem OwnI.short_bt {E : TypeId} {w : World} {base : Nat} {A : Option Addr} {c : Nat} {zs : List Int} (h : OwnI E w base A c zs) {k : Nat} (hk : k ≤ zs.length) (hA : A ≠ none) : OwnI E w base A c (zs.take k) := by
  obtain ⟨h1, h2, h3, h4⟩ := h
  have hl : (zs.take k).length = k := by rw [List.length_take]; omega
  refine ⟨by rw [hl]; omega, fun z hz => h2 z (List.mem_of_mem_take hz), by simp, ?_⟩
  rcases h4 with ⟨e, _⟩ | ⟨g, cap, cur, e, hb, hh, hc, hm, hs, ht⟩
  · injection e with e _ _
    exact absurd e hA
  · injection e with e1 e2 e3
    subst e1 e3
    refine .inr ⟨g, c, cur, by rw [hl], hb, hh, by omega, hm, hs, ?_⟩
    rw [hl, List.map_take, ← ht, List.take_take, Nat.min_eq_left (by omega), Nat.mul_one]

theorem OwnI.setOut_bt {E : TypeId} {base g c : Nat} {zs : List Int} : ∀ (vs : List Value) (o : Nat) (w : World), zs.length ≤ o → OwnI E w base (some ⟨g, 0, none⟩) c zs → OwnI E (w.setCells g o vs) base (some ⟨g, 0, none⟩) c zs
  | [], _, _, _, h => h
  | v :: vs, o, w, ho, h => by
    have h' : OwnI E (w.setCell ⟨g, o, none⟩ v) base (some ⟨g, 0, none⟩) c zs := by
      refine ⟨h.1, h.2.1, ?_⟩
      have := (h.2.2.stored o v).1
      rwa [List.set_eq_of_length_le (by simpa using ho)] at this
    exact OwnI.setOut_bt vs (o + 1) _ (by omega) h'

/-- What DeleteFunc's row holds between two rounds: those that stay, and behind j all as before. -/
structure DelBt (l : List Int) (x : Int) (i j : Nat) (dk : List Int) : Prop where
  len : dk.length = l.length
  lt : i < j
  le : j ≤ l.length
  kept : dk.take i = butBt (l.take j) x
  high : ∀ t, j ≤ t → nth dk t = nth l t
theorem DelBt.start {l : List Int} {x : Int} {k : Nat} (h1 : k < l.length) (h2 : nth l k = x) (h3 : ∀ j, j < k → nth l j ≠ x) : DelBt l x k (k + 1) l := by
  refine ⟨rfl, Nat.lt_succ_self _, h1, ?_, fun _ _ => rfl⟩
  rw [but_nextBt h1, if_pos h2, but_noneBt]
  intro hm
  obtain ⟨j, hj, e⟩ := nth_memBt.1 hm
  rw [List.length_take] at hj
  have hjk : j < k := by omega
  have e2 : nth l j = nth (l.take k) j := by rw [nth_get (show j < l.length by omega), nth_get (show j < (l.take k).length by rw [List.length_take]; omega), List.getElem_take]
  exact h3 j hjk (e2.trans e)
theorem DelBt.skip {l dk : List Int} {x : Int} {i j : Nat} (h : DelBt l x i j dk) (hj : j < l.length) (he : nth l j = x) : DelBt l x i (j + 1) dk :=
  ⟨h.len, by have := h.lt; omega, hj, by rw [but_nextBt hj, if_pos he]; exact h.kept, fun t ht => h.high t (by omega)⟩
theorem DelBt.keep {l dk : List Int} {x : Int} {i j : Nat} (h : DelBt l x i j dk) (hj : j < l.length) (he : nth l j ≠ x) : DelBt l x (i + 1) (j + 1) (dk.set i (nth l j)) := by
  have hi : i < dk.length := by have := h.lt; have := h.len; omega
  refine ⟨by simpa using h.len, by have := h.lt; omega, hj, ?_, fun t ht => ?_⟩
  · rw [but_nextBt hj, if_neg he, ← h.kept]
    rw [List.take_add_one]
    simp [hi, List.take_set_of_le]
  · by_cases htl : t < dk.length
    · rw [nth_set _ _ _ _ htl, if_neg (by have := h.lt; omega)]
      exact h.high t (by omega)
    · rw [nth_beyond (by simpa using Nat.le_of_not_lt htl), nth_beyond (by have := h.len; omega)]
theorem DelBt.done {l dk : List Int} {x : Int} {i j : Nat} (h : DelBt l x i j dk) (hj : l.length ≤ j) : dk.take i = butBt l x ∧ i = (butBt l x).length := by
  have hk := h.kept
  rw [List.take_of_length_le hj] at hk
  refine ⟨hk, ?_⟩
  rw [← hk, List.length_take]
  have := h.lt
  have := h.le
  have := h.len
  omega

end Go.Proofs.Ytmndkofdoclihaa

/-
  What the program writes into links stands for the lists that the document asks: push, cut (and pop), join.
-/
import Derived.Test.YtiheeehegjfmgaaPl
namespace Go.Proofs.Ytiheeehegjfmgaa
open Go.RowKit

section
variable {next head tail : List Int} {qs : List (List Int)}
theorem Rep.tail_at (r : Rep next head tail qs) {i : Nat} (hi : i < qs.length) : nth tail i = -1 ∧ (qth qs i).length = 0 ∨ 0 < (qth qs i).length ∧ 0 ≤ nth tail i ∧ nth tail i < (next.length : Int) ∧ nth tail i = nth (qth qs i) ((qth qs i).length - 1) := by
  have h1 := r.tl i hi
  rcases Nat.eq_zero_or_pos (qth qs i).length with h | h
  · left
    exact ⟨by rw [h1]; exact if_pos h, h⟩
  · right
    rw [lastO_at h] at h1
    have h2 := r.rng i ((qth qs i).length - 1) hi (by omega)
    exact ⟨h, by omega, by omega, h1⟩
theorem Rep.head_at (r : Rep next head tail qs) {i : Nat} (hi : i < qs.length) : nth head i = -1 ∧ (qth qs i).length = 0 ∨ 0 < (qth qs i).length ∧ 0 ≤ nth head i ∧ nth head i < (next.length : Int) ∧ nth head i = nth (qth qs i) 0 := by
  have h1 := r.hd i hi
  rcases Nat.eq_zero_or_pos (qth qs i).length with h | h
  · left
    exact ⟨by rw [h1]; exact if_pos h, h⟩
  · right
    rw [headO_at h] at h1
    have h2 := r.rng i 0 hi h
    exact ⟨h, by omega, by omega, h1⟩
theorem pushN_len (next tail : List Int) (i : Nat) (x : Int) : (pushN next tail i x).length = next.length := by unfold pushN; split <;> simp
theorem push_rep (r : Rep next head tail qs) {i x : Nat} (hi : i < qs.length) (hx : x < next.length) (hno : ∀ j, j < qs.length → (x : Int) ∉ qth qs j) :
    Rep (pushN next tail i x) (pushH head tail i x) (pushT tail i x) (qs.set i (qth qs i ++ [(x : Int)])) := by
  have hih : i < head.length := by rw [r.lh]; exact hi
  refine r.push hi hx hno (pushN_len _ _ _ _) (by unfold pushH; split <;> simp) (by unfold pushT; simp) (fun y hy => ?_) (fun j hj => ?_) (fun j hj => ?_)
  · unfold pushN
    simp only [Int.toNat_natCast]
    rcases r.tail_at hi with ⟨e, h0⟩ | ⟨h0, h1, h2, h3⟩
    · rw [if_pos e, nth_set _ _ _ _ hy]
      by_cases e2 : x = y
      · rw [if_pos e2, if_pos e2.symm]
      · rw [if_neg e2, if_neg (fun e => e2 e.symm), if_neg (by omega)]
    · rw [if_neg (by omega), nth_set _ _ _ _ (by simpa using hy)]
      by_cases e2 : x = y
      · rw [if_pos e2, if_pos e2.symm]
      · rw [if_neg e2, if_neg (fun e => e2 e.symm), nth_set _ _ _ _ hy, lastO_at h0, ← h3]
        by_cases e3 : (nth tail i).toNat = y
        · rw [if_pos e3, if_pos ⟨h0, by omega⟩]
        · rw [if_neg e3, if_neg (by omega)]
  · unfold pushH
    have hjh : j < head.length := by rw [r.lh]; exact hj
    rcases r.tail_at hi with ⟨e, h0⟩ | ⟨h0, h1, h2, h3⟩
    · rw [if_pos e, nth_set _ _ _ _ hjh]
      by_cases e2 : i = j
      · rw [if_pos e2, if_pos ⟨e2.symm, h0⟩]
      · rw [if_neg e2, if_neg (fun h => e2 h.1.symm)]
    · rw [if_neg (by omega), if_neg (by omega)]
  · unfold pushT
    rw [nth_set _ _ _ _ (by rw [r.lt]; exact hj)]
    by_cases e2 : i = j
    · rw [if_pos e2, if_pos e2.symm]
    · rw [if_neg e2, if_neg (fun e => e2 e.symm)]

theorem cutN_len (next : List Int) (ah : Int) (x : Nat) : (cutN next ah x).length = next.length := by unfold cutN; split <;> simp
theorem cut_rep (r : Rep next head tail qs) {i p x : Nat} (hi : i < qs.length) (hp : p < (qth qs i).length) (hx : nth (qth qs i) p = (x : Int)) :
    Rep (cutN next (aheadO (qth qs i) p) x) (cutH next head i (aheadO (qth qs i) p) x) (cutT tail i (aheadO (qth qs i) p) x) (qs.set i ((qth qs i).eraseIdx p)) := by
  have hrx := r.rng i p hi hp
  rw [hx] at hrx
  have hxn : x < next.length := by omega
  have hnx : nth next x = nxOf (qth qs i) p := by have := r.nx i p hi hp; rwa [hx, Int.toNat_natCast] at this
  have hah : p = 0 ∧ aheadO (qth qs i) p = -1 ∨ 0 < p ∧ aheadO (qth qs i) p = nth (qth qs i) (p - 1) ∧ 0 ≤ aheadO (qth qs i) p ∧ aheadO (qth qs i) p < (next.length : Int) := by
    unfold aheadO
    by_cases h : p = 0
    · left; exact ⟨h, if_pos h⟩
    · right
      rw [if_neg h]
      have := r.rng i (p - 1) hi (by omega)
      exact ⟨by omega, rfl, this.1, this.2⟩
  have htx : nth tail i = (x : Int) ↔ p + 1 = (qth qs i).length := by
    rcases r.tail_at hi with ⟨_, h0⟩ | ⟨h0, h1, h2, h3⟩
    · omega
    · rw [h3, ← hx]
      constructor
      · intro e
        have := (r.one i i _ _ hi hi (by omega) hp e).2
        omega
      · intro e
        rw [show (qth qs i).length - 1 = p by omega]
  refine r.cut hi hp (cutN_len _ _ _) (by unfold cutH; split <;> simp) (by unfold cutT; split <;> simp) (fun y hy => ?_) (fun j hj => ?_) (fun j hj => ?_)
  · unfold cutN
    rcases hah with ⟨h0, e⟩ | ⟨h0, e, h1, h2⟩
    · rw [if_pos e, nth_set _ _ _ _ hy, hx]
      by_cases e2 : x = y
      · rw [if_pos e2, if_pos (by omega)]
      · rw [if_neg e2, if_neg (by omega), if_neg (by omega)]
    · rw [if_neg (by omega), nth_set _ _ _ _ (by simpa using hy), hx]
      by_cases e2 : x = y
      · rw [if_pos e2, if_pos (by omega)]
      · rw [if_neg e2, if_neg (by omega), nth_set _ _ _ _ hy, hnx, ← e]
        by_cases e3 : (aheadO (qth qs i) p).toNat = y
        · rw [if_pos e3, if_pos ⟨h0, by omega⟩]
        · rw [if_neg e3, if_neg (by omega)]
  · unfold cutH
    have hjh : j < head.length := by rw [r.lh]; exact hj
    rcases hah with ⟨h0, e⟩ | ⟨h0, e, h1, h2⟩
    · rw [if_pos e, nth_set _ _ _ _ hjh, hnx, h0]
      by_cases e2 : i = j
      · rw [if_pos e2, if_pos ⟨e2.symm, rfl⟩]
      · rw [if_neg e2, if_neg (fun h => e2 h.1.symm)]
    · rw [if_neg (by omega), if_neg (by omega)]
  · unfold cutT
    have hjt : j < tail.length := by rw [r.lt]; exact hj
    by_cases e : nth tail i = (x : Int)
    · rw [if_pos e, nth_set _ _ _ _ hjt]
      by_cases e2 : i = j
      · rw [if_pos e2, if_pos ⟨e2.symm, htx.1 e⟩]
        rfl
      · rw [if_neg e2, if_neg (fun h => e2 h.1.symm)]
    · rw [if_neg e, if_neg (fun h => e (htx.2 h.2))]

theorem joinN_len (next head tail : List Int) (f t : Nat) : (joinN next head tail f t).length = next.length := by unfold joinN; split <;> simp
theorem join_rep (r : Rep next head tail qs) {f t : Nat} (hf : f < qs.length) (ht : t < qs.length) (hft : f ≠ t) (hz : nth head f ≠ -1) :
    Rep (joinN next head tail f t) (joinH head tail f t) (joinT tail f t) ((qs.set t (qth qs t ++ qth qs f)).set f []) := by
  have hf0 : 0 < (qth qs f).length ∧ 0 ≤ nth head f ∧ nth head f < (next.length : Int) ∧ nth head f = nth (qth qs f) 0 := by
    rcases r.head_at hf with ⟨e, _⟩ | h
    · exact absurd e hz
    · exact h
  obtain ⟨f0, f1, f2, f3⟩ := hf0
  refine r.join hf ht hft (joinN_len _ _ _ _ _) (by unfold joinH; split <;> simp) (by unfold joinT; simp) (fun y hy => ?_) (fun j hj => ?_) (fun j hj => ?_)
  · unfold joinN
    rcases r.tail_at ht with ⟨e, h0⟩ | ⟨h0, h1, h2, h3⟩
    · rw [if_pos e, if_neg (by omega)]
    · rw [if_neg (by omega), nth_set _ _ _ _ hy, lastO_at h0, ← h3, headO_at f0, ← f3]
      by_cases e3 : (nth tail t).toNat = y
      · rw [if_pos e3, if_pos ⟨h0, f0, by omega⟩]
      · rw [if_neg e3, if_neg (by omega)]
  · unfold joinH
    have hjh : j < head.length := by rw [r.lh]; exact hj
    rw [headO_at f0, ← f3]
    rcases r.tail_at ht with ⟨e, h0⟩ | ⟨h0, h1, h2, h3⟩
    · rw [if_pos e, nth_set _ _ _ _ (by simpa using hjh), nth_set _ _ _ _ hjh]
      by_cases e2 : f = j
      · rw [if_pos e2, if_pos e2.symm]
      · rw [if_neg e2, if_neg (show ¬ j = f from fun e => e2 e.symm)]
        by_cases e3 : t = j
        · rw [if_pos e3, if_pos ⟨e3.symm, h0⟩]
        · rw [if_neg e3, if_neg (fun h => e3 h.1.symm)]
    · rw [if_neg (by omega), nth_set _ _ _ _ hjh]
      by_cases e2 : f = j
      · rw [if_pos e2, if_pos e2.symm]
      · rw [if_neg e2, if_neg (show ¬ j = f from fun e => e2 e.symm), if_neg (by omega)]
  · unfold joinT
    have hjt : j < tail.length := by rw [r.lt]; exact hj
    rw [nth_set _ _ _ _ (by simpa using hjt), nth_set _ _ _ _ hjt]
    by_cases e2 : f = j
    · rw [if_pos e2, if_pos e2.symm]
    · rw [if_neg e2, if_neg (show ¬ j = f from fun e => e2 e.symm)]
      by_cases e3 : t = j
      · rw [if_pos e3, if_pos ⟨e3.symm, f0⟩, r.tl f hf]
      · rw [if_neg e3, if_neg (fun h => e3 h.1.symm)]
/-- A list of none put behind another one: nothing turns. -/
theorem join_nothing {f t : Nat} (hz : (qth qs f).length = 0) : (qs.set t (qth qs t ++ qth qs f)).set f [] = qs := by
  have e : qth qs f = [] := List.eq_nil_of_length_eq_zero hz
  refine ext_qth (by simp) fun i hi => ?_
  have hi' : i < qs.length := by simpa using hi
  rw [qth_set _ _ _ _ (by simpa using hi'), qth_set _ _ _ _ hi', e, List.append_nil]
  by_cases h1 : f = i
  · rw [if_pos h1, ← h1, e]
  · rw [if_neg h1]
    by_cases h2 : t = i
    · rw [if_pos h2, h2]
    · rw [if_neg h2]
end

end Go.Proofs.Ytiheeehegjfmgaa

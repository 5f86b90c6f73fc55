/-
  Layer 17: mathematics of the laws: workers that may be, behind each change.
-/
import Derived.Test.YtmndkofdoclihaaWow
namespace Go.Proofs.Ytmndkofdoclihaa
open Go.RowKit

theorem nth_setW {l : List Int} {k j : Nat} {x : Int} (hj : j < l.length) : nth (l.set k x) j = if k = j then x else nth l j := nth_set _ _ _ _ hj
theorem set_set_W (l : List Int) (k : Nat) (x y : Int) : (l.set k x).set k y = l.set k y := List.set_set ..
theorem set_same_W {l : List Int} {k : Nat} : l.set k (nth l k) = l := by
  refine ext_nth (by simp) fun i hi => ?_
  have hi' : i < l.length := by simpa using hi
  rw [nth_setW hi']
  split
  · next h => rw [h]
  · rfl
theorem fours_set {is : List Int} (h : fours is) (k : Nat) {x : Int} (hx : 0 ≤ x ∧ x ≤ 3) : fours (is.set k x) := fun y hy => by
  rcases List.mem_or_eq_of_mem_set hy with q | rfl
  · exact h y q
  · exact hx
theorem many_butW (st : List Int) (x : Int) : (butBt st x).length + manyWo st x = st.length := by
  unfold butBt manyWo
  induction st with
  | nil => rfl
  | cons y l ih =>
    by_cases h : y = x
    · subst h; simp at ih ⊢; omega
    · simp [h] at ih ⊢; omega
theorem but_app (st : List Int) {x : Int} (h : x ∉ st) : butBt (st ++ [x]) x = st := by
  have : butBt (st ++ [x]) x = butBt st x ++ butBt [x] x := by simp [butBt]
  rw [this, but_noneBt h]
  simp [butBt]
theorem in_stack {is st : List Int} (h : okWo is st) {j : Nat} (hj : j < is.length) (h2 : 2 ≤ nth is j) : manyWo st (j : Int) = 1 := h.2.2.2.2 j hj h2
theorem no_stack {is st : List Int} (h : okWo is st) {j : Nat} (h2 : nth is j < 2) : (j : Int) ∉ st := not_in h (by simpa using h2)

/-- One who is awake, or spins, announces. -/
theorem ok_ann {is st : List Int} {j : Nat} (h : okWo is st) (hj : j < is.length) (hz : nth is j ≤ 1) : okWo (is.set j 2) (st ++ [(j : Int)]) := by
  obtain ⟨h1, h2, h3, h4, h5⟩ := id h
  have f := fours_at h2 hj
  have m1 := many_set hj 2 1
  have m2 := many_set hj 2 2
  have m3 := many_set hj 2 3
  have a2 : ¬ nth is j = 2 := by omega
  have a3 : ¬ nth is j = 3 := by omega
  simp [a2, a3] at m1 m2 m3
  refine ⟨by simpa using h1, fours_set h2 j (by omega), ?_, by simp; omega, fun i hi h2i => ?_⟩
  · unfold fitsWo at h3 ⊢
    rw [List.length_set]
    split at m1 <;> omega
  · have hi' : i < is.length := by simpa using hi
    rw [many_snoc]
    rw [nth_setW hi'] at h2i
    by_cases e : j = i
    · subst e
      rw [many_none (no_stack h (by omega))]
      simp
    · rw [if_neg e] at h2i
      have : ¬ (j : Int) = (i : Int) := by omega
      rw [if_neg this, h5 i hi' h2i]
/-- One who is about to park parks. -/
theorem ok_park {is st : List Int} {j : Nat} (h : okWo is st) (hj : j < is.length) (hz : nth is j = 2) (hf : fitsWo (is.set j 3)) : okWo (is.set j 3) st := by
  obtain ⟨h1, h2, h3, h4, h5⟩ := id h
  have m2 := many_set hj 3 2
  have m3 := many_set hj 3 3
  simp [hz] at m2 m3
  refine ⟨by simpa using h1, fours_set h2 j (by omega), hf, by omega, fun i hi h2i => ?_⟩
  have hi' : i < is.length := by simpa using hi
  rw [nth_setW hi'] at h2i
  refine h5 i hi' ?_
  split at h2i
  · next e => subst e; omega
  · exact h2i
/-- One is awake. -/
theorem ok_wake {is st : List Int} {j : Nat} (h : okWo is st) (hj : j < is.length) : okWo (is.set j 0) (butBt st (j : Int)) := by
  obtain ⟨h1, h2, h3, h4, h5⟩ := id h
  have f := fours_at h2 hj
  have m1 := many_set hj 0 1
  have m2 := many_set hj 0 2
  have m3 := many_set hj 0 3
  have hb := many_butW st (j : Int)
  simp at m1 m2 m3
  refine ⟨by simpa using h1, fours_set h2 j (by omega), ?_, ?_, fun i hi h2i => ?_⟩
  · unfold fitsWo at h3 ⊢
    rw [List.length_set]
    omega
  · by_cases hz : 2 ≤ nth is j
    · have := in_stack h hj hz
      have : nth is j = 2 ∨ nth is j = 3 := by omega
      rcases this with e | e <;> simp [e] at m2 m3 <;> omega
    · have := many_none (no_stack h (j := j) (by omega))
      have a2 : ¬ nth is j = 2 := by omega
      have a3 : ¬ nth is j = 3 := by omega
      simp [a2, a3] at m2 m3
      omega
  · have hi' : i < is.length := by simpa using hi
    rw [nth_setW hi'] at h2i
    rw [many_but]
    by_cases e : j = i
    · subst e; simp at h2i
    · rw [if_neg e] at h2i
      have : ¬ (i : Int) = (j : Int) := by omega
      rw [if_neg this]
      exact h5 i hi' h2i
theorem ok_new {n : Nat} (h1 : 1 ≤ n) (h2 : n ≤ 64) : okWo (List.replicate n 0) [] := by
  refine ⟨by simp; omega, fun x hx => by rw [(List.mem_replicate.1 hx).2]; omega, ?_, by simp [many_replicate], fun j hj h => ?_⟩
  · unfold fitsWo
    simp [many_replicate]
    omega
  · have : nth (List.replicate n (0 : Int)) j = 0 := by rw [nth_get hj]; simp
    omega
theorem ok_nodup {is st : List Int} (h : okWo is st) : st.Nodup := (ok_perm h).nodup_iff.2 (restL_nodup is)
theorem but_last {l : List Int} (hd : l.Nodup) {k : Nat} (hk : k < l.length) : butBt (l.take (k + 1)) (nth l k) = l.take k := by
  rw [take_nextBt hk, but_app _ (fresh_of hd hk)]
theorem nth_takeW {l : List Int} {k j : Nat} (hj : j < k) : nth (l.take k) j = nth l j := by
  unfold nth
  simp [List.getD, hj]

/-- What the loop over the four kinds has added up, and written down. -/
def sumWo (is : List Int) : Nat → Nat
  | 0 => 0
  | k + 1 => sumWo is k + manyWo is (k : Int)
def fourL (is : List Int) (k : Nat) : List Int := (List.range 4).map fun i => if i < k then (manyWo is (i : Int) : Int) else 0
theorem sum_le (is : List Int) (k : Nat) : sumWo is k ≤ k * is.length := by
  induction k with
  | zero => simp [sumWo]
  | succ k ih =>
    have := many_le is (k : Int)
    simp only [sumWo, Nat.succ_mul]
    omega
theorem sum_four {is : List Int} (h : fours is) : sumWo is 4 = is.length := by
  have := many_all h
  simp [sumWo]
  omega
theorem fourL_len (is : List Int) (k : Nat) : (fourL is k).length = 4 := by simp [fourL]
theorem fourL_zero (is : List Int) : fourL is 0 = [0, 0, 0, 0] := by simp [fourL, List.range, List.range.loop]
theorem fourL_next {is : List Int} {k : Nat} : (fourL is k).set k (manyWo is (k : Int) : Int) = fourL is (k + 1) := by
  refine ext_nth (by simp [fourL]) fun i hi => ?_
  have hi4 : i < 4 := by simpa [fourL] using hi
  rw [nth_setW (by rw [fourL_len]; exact hi4)]
  have e : ∀ k, nth (fourL is k) i = if i < k then (manyWo is (i : Int) : Int) else 0 := fun k => by simp [fourL, nth, List.getD, hi4]
  rw [e, e]
  by_cases h : k = i
  · subst h; simp
  · rw [if_neg h]
    by_cases h2 : i < k
    · rw [if_pos h2, if_pos (by omega)]
    · rw [if_neg h2, if_neg (by omega)]
theorem fourL_all (is : List Int) : fourL is 4 = [(manyWo is 0 : Int), (manyWo is 1 : Int), (manyWo is 2 : Int), (manyWo is 3 : Int)] := by simp [fourL, List.range, List.range.loop]

end Go.Proofs.Ytmndkofdoclihaa

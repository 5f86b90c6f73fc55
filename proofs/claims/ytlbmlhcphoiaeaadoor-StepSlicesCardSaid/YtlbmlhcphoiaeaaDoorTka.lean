/-
  Layer 12: plain words for tasks and states; the small functions of both sides; which state may follow which, both.
-/
import Derived.Test.YtlbmlhcphoiaeaaDoorTab
import Derived.Test.YtlbmlhcphoiaeaaDoorKit
namespace Go.Proofs.YtlbmlhcphoiaeaaDoor
open Go.RowKit

/-- A value, and the world as it was. -/
def RetW (v : Value) (w : World) (e : Ending) (w' : World) : Prop := e = .returned v ∧ w = w'

def legB (a b : Int) : Bool := stB a && stB b && tabB a.toNat b.toNat
def wtB (n : Int) : Bool := decide (3 ≤ n) && decide (n ≤ 6)

theorem stB_iff {n : Int} : stB n = true ↔ 1 ≤ n ∧ n ≤ 7 := by simp [stB]
theorem stB_nat {n : Int} (h : stB n = true) : ∃ i : Nat, n = i ∧ 1 ≤ i ∧ i ≤ 7 := by
  obtain ⟨h1, h2⟩ := stB_iff.1 h
  exact ⟨n.toNat, by omega, by omega, by omega⟩

theorem st_any (n : Int) (w : World) : Calls Tryd.prog 34 #[.int .i64 n] w (RetW (.bool (stB n)) w) := by
  by_cases h1 : 1 ≤ n <;> by_cases h2 : n ≤ 7
  all_goals
    go_enter Tryd.func34, Tryd.ntmps34
    go_wp2
    go_ret
    exact ⟨by simp [stB, h1, h2], rfl⟩
theorem rst_any (n : Int) (w : World) : Calls Tryd.prog 43 #[.int .i64 n] w (RetW (.bool (stB n)) w) := by
  by_cases h1 : 1 ≤ n <;> by_cases h2 : n ≤ 7
  all_goals
    go_enter Tryd.func43, Tryd.ntmps43
    go_wp2
    go_ret
    exact ⟨by simp [stB, h1, h2], rfl⟩
theorem bel_any (n b : Int) (w : World) : Calls Tryd.prog 33 #[.int .i64 n, .int .i64 b] w (RetW (.bool (decide (0 ≤ n) && decide (n < b))) w) := by
  by_cases h1 : 0 ≤ n <;> by_cases h2 : n < b
  all_goals
    go_enter Tryd.func33, Tryd.ntmps33
    go_wp2
    go_ret
    exact ⟨by simp [h1, h2], rfl⟩
theorem mayk_any (n : Int) (w : World) : Calls Tryd.prog 35 #[.int .i64 n] w (RetW (.bool (decide (-1 ≤ n))) w) := by
  by_cases h1 : n = -1
  · subst h1
    go_enter Tryd.func35, Tryd.ntmps35
    go_wp2
    go_ret
    exact ⟨rfl, rfl⟩
  · by_cases h2 : 0 ≤ n
    · have h3 : Hid (decide (-1 ≤ n) = true) := Lib.hid (decide_eq_true (by omega))
      go_enter Tryd.func35, Tryd.ntmps35
      go_wp2
      go_ret
      exact ⟨by rw [h3.out]; simp, rfl⟩
    · have h3 : Hid (decide (-1 ≤ n) = false) := Lib.hid (decide_eq_false (by omega))
      go_enter Tryd.func35, Tryd.ntmps35
      go_wp2
      go_ret
      exact ⟨by rw [h3.out]; simpa using h1, rfl⟩
theorem leg_any (a b : Int) (w : World) (hF : Fol w) : Calls Tryd.prog 36 #[.int .i64 a, .int .i64 b] w (RetW (.bool (legB a b)) w) := by
  unfold legB
  by_cases h1 : stB a = true
  · by_cases h2 : stB b = true
    · have H1 := Lib.hid h1
      have H2 := Lib.hid h2
      obtain ⟨i, rfl, i1, i7⟩ := stB_nat h1
      obtain ⟨j, rfl, j1, j7⟩ := stB_nat h2
      have hc := hF.2 i j (by omega) (by omega)
      have hlt := hF.1
      have hi8 : i < 8 := by omega
      have hj8 : j < 8 := by omega
      clear h1 h2 hF i1 i7 j1 j7
      go_enter Tryd.func36, Tryd.ntmps36
      go_wp2_with fail
      refine (st_any _ _).mono ?_
      rw [H1.out]
      rintro e w1 ⟨rfl, rfl⟩
      go_wp2_with fail
      refine (st_any _ _).mono ?_
      rw [H2.out]
      rintro e w1 ⟨rfl, rfl⟩
      go_wp2
      go_ret
      exact ⟨by simp [H1.out, H2.out], rfl⟩
    · have H1 := Lib.hid h1
      have h2' : stB b = false := by simpa using h2
      have H2 := Lib.hid h2'
      clear h1 h2 h2' hF
      go_enter Tryd.func36, Tryd.ntmps36
      go_wp2_with fail
      refine (st_any _ _).mono ?_
      rw [H1.out]
      rintro e w1 ⟨rfl, rfl⟩
      go_wp2_with fail
      refine (st_any _ _).mono ?_
      rw [H2.out]
      rintro e w1 ⟨rfl, rfl⟩
      go_wp2
      go_ret
      exact ⟨by simp [H2.out], rfl⟩
  · have h1' : stB a = false := by simpa using h1
    have H1 := Lib.hid h1'
    clear h1 h1' hF
    go_enter Tryd.func36, Tryd.ntmps36
    go_wp2_with fail
    refine (st_any _ _).mono ?_
    rw [H1.out]
    rintro e w1 ⟨rfl, rfl⟩
    go_wp2
    go_ret
    exact ⟨by simp [H1.out], rfl⟩

theorem legB_plain (a b : Int) : legB a b = (if stB a = true ∧ stB b = true then (if b = 7 then decide (a ≠ 7) else if b = 2 then decide (a = 1) else if b = 1 then (decide (a = 2) || wtB a) else decide (a = 2)) else false) := by
  unfold legB
  by_cases h : stB a = true ∧ stB b = true
  · rw [if_pos h, h.1, h.2]
    obtain ⟨i, rfl, i1, i7⟩ := stB_nat h.1
    obtain ⟨j, rfl, j1, j7⟩ := stB_nat h.2
    have hi : i = 1 ∨ i = 2 ∨ i = 3 ∨ i = 4 ∨ i = 5 ∨ i = 6 ∨ i = 7 := by omega
    have hj : j = 1 ∨ j = 2 ∨ j = 3 ∨ j = 4 ∨ j = 5 ∨ j = 6 ∨ j = 7 := by omega
    clear h i1 i7 j1 j7
    rcases hi with rfl | rfl | rfl | rfl | rfl | rfl | rfl <;> rcases hj with rfl | rfl | rfl | rfl | rfl | rfl | rfl <;> decide
  · rw [if_neg h]
    by_cases h1 : stB a = true
    · have : stB b = false := by
        cases hb : stB b with
        | false => rfl
        | true => exact absurd ⟨h1, hb⟩ h
      simp [this]
    · have : stB a = false := by simpa using h1
      simp [this]

end Go.Proofs.YtlbmlhcphoiaeaaDoor

/-
  The contract of 'few'.
-/
import Derived.Test.YtiheeehegjfmgaaCp
namespace Go.Proofs.Ytiheeehegjfmgaa
open Go.RowKit

/-- Few enough to be played. -/
def fewB (n m k : Nat) : Bool := (decide (n ≤ 200) || (decide (1024 < n) && decide (n ≤ 1100))) && (decide (m ≤ 300) && decide (k ≤ 300))
theorem fewB_true {n m k : Nat} (h : fewB n m k = true) : n ≤ 1100 ∧ m ≤ 300 ∧ k ≤ 300 := by
  simp [fewB] at h
  omega
set_option maxHeartbeats 2000000 in
theorem few_any (A B D : Option Addr) (n a m b k d : Nat) (w : World) (hn : n ≤ 9223372036854775807) (hm : m ≤ 9223372036854775807) (hk : k ≤ 9223372036854775807) :
    Calls Try.prog 10 #[.agg #[.slice A n a, .slice B m b, .slice D k d]] w (RetB (.bool (fewB n m k)) w) := by
  have hb := Lib.hid ((Below.refl w.heap.size w).alloc (Nat.le_refl _) (.cells #[.slice A n a, .slice B m b, .slice D k d] 24))
  have K1 := Bk.new w 24 #[.slice A n a, .slice B m b, .slice D k d]
  have c0 := K1.e0
  have c1 := K1.e1
  have c2 := K1.e2
  have hc : (n ≤ 200 ∧ m ≤ 300 ∧ k ≤ 300) ∨ (n ≤ 200 ∧ m ≤ 300 ∧ ¬ k ≤ 300) ∨ (n ≤ 200 ∧ ¬ m ≤ 300) ∨ (¬ n ≤ 200 ∧ ¬ 1024 < n) ∨ (¬ n ≤ 200 ∧ 1024 < n ∧ ¬ n ≤ 1100) ∨ (¬ n ≤ 200 ∧ 1024 < n ∧ n ≤ 1100 ∧ m ≤ 300 ∧ k ≤ 300) ∨ (¬ n ≤ 200 ∧ 1024 < n ∧ n ≤ 1100 ∧ m ≤ 300 ∧ ¬ k ≤ 300) ∨ (¬ n ≤ 200 ∧ 1024 < n ∧ n ≤ 1100 ∧ ¬ m ≤ 300) := by omega
  rcases hc with ⟨h1, h2, h3⟩ | ⟨h1, h2, h3⟩ | ⟨h1, h2⟩ | ⟨h1, h2⟩ | ⟨h1, h2, h3⟩ | ⟨h1, h2, h3, h4, h5⟩ | ⟨h1, h2, h3, h4, h5⟩ | ⟨h1, h2, h3, h4⟩
  · rw [show fewB n m k = true from by simp [fewB]; omega]
    go_enter Try.func10, Try.ntmps10
    go_wp2
    go_ret
    exact ⟨by first | rfl | (simp; omega), hb.out⟩
  · rw [show fewB n m k = false from by simp [fewB]; omega]
    go_enter Try.func10, Try.ntmps10
    go_wp2
    go_ret
    exact ⟨by first | rfl | (simp; omega), hb.out⟩
  · rw [show fewB n m k = false from by simp [fewB]; omega]
    go_enter Try.func10, Try.ntmps10
    go_wp2
    go_ret
    exact ⟨by first | rfl | (simp; omega), hb.out⟩
  · rw [show fewB n m k = false from by simp [fewB]; omega]
    go_enter Try.func10, Try.ntmps10
    go_wp2
    go_ret
    exact ⟨by first | rfl | (simp; omega), hb.out⟩
  · rw [show fewB n m k = false from by simp [fewB]; omega]
    go_enter Try.func10, Try.ntmps10
    go_wp2
    go_ret
    exact ⟨by first | rfl | (simp; omega), hb.out⟩
  · rw [show fewB n m k = true from by simp [fewB]; omega]
    go_enter Try.func10, Try.ntmps10
    go_wp2
    go_ret
    exact ⟨by first | rfl | (simp; omega), hb.out⟩
  · rw [show fewB n m k = false from by simp [fewB]; omega]
    go_enter Try.func10, Try.ntmps10
    go_wp2
    go_ret
    exact ⟨by first | rfl | (simp; omega), hb.out⟩
  · rw [show fewB n m k = false from by simp [fewB]; omega]
    go_enter Try.func10, Try.ntmps10
    go_wp2
    go_ret
    exact ⟨by first | rfl | (simp; omega), hb.out⟩

end Go.Proofs.Ytiheeehegjfmgaa

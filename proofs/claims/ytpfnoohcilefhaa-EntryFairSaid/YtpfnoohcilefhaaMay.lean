/-
  Contracts of the smallest functions of layer 4: a number within bounds, and whether an instruction may be; the program's and the document's.
-/
import Derived.Test.YtpfnoohcilefhaaMath
import Derived.Test.YtpfnoohcilefhaaRows
namespace Go.Proofs.Ytpfnoohcilefhaa
open Go.RowKit

/-- A number is within bounds: a word that the walk does not open. -/
def inB (n a b : Int) : Bool := decide (a ≤ n ∧ n ≤ b)

theorem within_any (n a b : Int) (w : World) : Calls Try.prog 83 #[.int .i64 n, .int .i64 a, .int .i64 b] w fun e w' => e = .returned (.bool (inB n a b)) ∧ w = w' := by
  by_cases h1 : a ≤ n
  · have H : Hid (decide (n ≤ b) = inB n a b) := Lib.hid (by simp [inB, h1])
    go_enter Try.func83, Try.ntmps83
    go_wp2
    go_ret
    exact ⟨ret_bool H.out, rfl⟩
  · have H : Hid (false = inB n a b) := Lib.hid (by simp [inB, h1])
    go_enter Try.func83, Try.ntmps83
    go_wp2
    go_ret
    exact ⟨ret_bool H.out, rfl⟩

theorem rin_any (n a b : Int) (w : World) : Calls Try.prog 77 #[.int .i64 n, .int .i64 a, .int .i64 b] w fun e w' => e = .returned (.bool (inB n a b)) ∧ w = w' := by
  by_cases h1 : a ≤ n
  · have H : Hid (decide (n ≤ b) = inB n a b) := Lib.hid (by simp [inB, h1])
    go_enter Try.func77, Try.ntmps77
    go_wp2
    go_ret
    exact ⟨ret_bool H.out, rfl⟩
  · have H : Hid (false = inB n a b) := Lib.hid (by simp [inB, h1])
    go_enter Try.func77, Try.ntmps77
    go_wp2
    go_ret
    exact ⟨ret_bool H.out, rfl⟩

theorem may_is1 (a b : Int) : mayB (1, a, b) = (inB a 1 100 && (b == 0)) := by
  rw [Bool.eq_iff_iff]; simp [mayB, inB]; try omega

theorem may_is2 (a b : Int) : mayB (2, a, b) = (inB a 0 15 && inB b 0 3) := by
  rw [Bool.eq_iff_iff]; simp [mayB, inB]; try omega

theorem may_is3 (a b : Int) : mayB (3, a, b) = ((a == 0) && (b == 0)) := by
  rw [Bool.eq_iff_iff]; simp [mayB]

theorem may_is4 (a b : Int) : mayB (4, a, b) = (inB a 1 1000 && (b == 0)) := by
  rw [Bool.eq_iff_iff]; simp [mayB, inB]; try omega

theorem may_is5 (a b : Int) : mayB (5, a, b) = (inB a 0 15 && (b == 0)) := by
  rw [Bool.eq_iff_iff]; simp [mayB, inB]; try omega

theorem may_is6 (a b : Int) : mayB (6, a, b) = (inB a 0 3 && (b == 0)) := by
  rw [Bool.eq_iff_iff]; simp [mayB, inB]; try omega

theorem may_is7 (a b : Int) : mayB (7, a, b) = (inB a 0 7 && (b == 0)) := by
  rw [Bool.eq_iff_iff]; simp [mayB, inB]; try omega

theorem may_is8 (a b : Int) : mayB (8, a, b) = (inB a 0 7 && (b == 0)) := by
  rw [Bool.eq_iff_iff]; simp [mayB, inB]; try omega

theorem may_is9 (a b : Int) : mayB (9, a, b) = ((a == 0) && (b == 0)) := by
  rw [Bool.eq_iff_iff]; simp [mayB]

theorem may_out {o a b : Int} (h : o < 1 ∨ 9 < o) : mayB (o, a, b) = false := by
  unfold mayB
  exact decide_eq_false (by simp only []; omega)

set_option maxHeartbeats 1000000 in
theorem may1 (a b : Int) (w : World) : Calls Try.prog 76 #[.agg #[.int .i64 1, .int .i64 a, .int .i64 b]] w (RetB (.bool (mayB (1, a, b))) w) := by
  go_enter Try.func76, Try.ntmps76
  go_wp2_with (go_at_call 83; refine (within_any _ _ _ _).mono ?_; rintro e w' ⟨rfl, rfl⟩)
  all_goals
    go_ret
    exact RetB.of (ret_bool (by rw [may_is1]; simp [*])) ((Below.refl _ _).alloc (Nat.le_refl _) _)

set_option maxHeartbeats 1000000 in
theorem may2 (a b : Int) (w : World) : Calls Try.prog 76 #[.agg #[.int .i64 2, .int .i64 a, .int .i64 b]] w (RetB (.bool (mayB (2, a, b))) w) := by
  go_enter Try.func76, Try.ntmps76
  go_wp2_with (go_at_call 83; refine (within_any _ _ _ _).mono ?_; rintro e w' ⟨rfl, rfl⟩)
  all_goals
    go_ret
    exact RetB.of (ret_bool (by rw [may_is2]; simp [*])) ((Below.refl _ _).alloc (Nat.le_refl _) _)

set_option maxHeartbeats 1000000 in
theorem may3 (a b : Int) (w : World) : Calls Try.prog 76 #[.agg #[.int .i64 3, .int .i64 a, .int .i64 b]] w (RetB (.bool (mayB (3, a, b))) w) := by
  go_enter Try.func76, Try.ntmps76
  go_wp2_with (go_at_call 83; refine (within_any _ _ _ _).mono ?_; rintro e w' ⟨rfl, rfl⟩)
  all_goals
    go_ret
    exact RetB.of (ret_bool (by rw [may_is3]; simp [*])) ((Below.refl _ _).alloc (Nat.le_refl _) _)

set_option maxHeartbeats 1000000 in
theorem may4 (a b : Int) (w : World) : Calls Try.prog 76 #[.agg #[.int .i64 4, .int .i64 a, .int .i64 b]] w (RetB (.bool (mayB (4, a, b))) w) := by
  go_enter Try.func76, Try.ntmps76
  go_wp2_with (go_at_call 83; refine (within_any _ _ _ _).mono ?_; rintro e w' ⟨rfl, rfl⟩)
  all_goals
    go_ret
    exact RetB.of (ret_bool (by rw [may_is4]; simp [*])) ((Below.refl _ _).alloc (Nat.le_refl _) _)

set_option maxHeartbeats 1000000 in
theorem may5 (a b : Int) (w : World) : Calls Try.prog 76 #[.agg #[.int .i64 5, .int .i64 a, .int .i64 b]] w (RetB (.bool (mayB (5, a, b))) w) := by
  go_enter Try.func76, Try.ntmps76
  go_wp2_with (go_at_call 83; refine (within_any _ _ _ _).mono ?_; rintro e w' ⟨rfl, rfl⟩)
  all_goals
    go_ret
    exact RetB.of (ret_bool (by rw [may_is5]; simp [*])) ((Below.refl _ _).alloc (Nat.le_refl _) _)

set_option maxHeartbeats 1000000 in
theorem may6 (a b : Int) (w : World) : Calls Try.prog 76 #[.agg #[.int .i64 6, .int .i64 a, .int .i64 b]] w (RetB (.bool (mayB (6, a, b))) w) := by
  go_enter Try.func76, Try.ntmps76
  go_wp2_with (go_at_call 83; refine (within_any _ _ _ _).mono ?_; rintro e w' ⟨rfl, rfl⟩)
  all_goals
    go_ret
    exact RetB.of (ret_bool (by rw [may_is6]; simp [*])) ((Below.refl _ _).alloc (Nat.le_refl _) _)

set_option maxHeartbeats 1000000 in
theorem may7 (a b : Int) (w : World) : Calls Try.prog 76 #[.agg #[.int .i64 7, .int .i64 a, .int .i64 b]] w (RetB (.bool (mayB (7, a, b))) w) := by
  go_enter Try.func76, Try.ntmps76
  go_wp2_with (go_at_call 83; refine (within_any _ _ _ _).mono ?_; rintro e w' ⟨rfl, rfl⟩)
  all_goals
    go_ret
    exact RetB.of (ret_bool (by rw [may_is7]; simp [*])) ((Below.refl _ _).alloc (Nat.le_refl _) _)

set_option maxHeartbeats 1000000 in
theorem may8 (a b : Int) (w : World) : Calls Try.prog 76 #[.agg #[.int .i64 8, .int .i64 a, .int .i64 b]] w (RetB (.bool (mayB (8, a, b))) w) := by
  go_enter Try.func76, Try.ntmps76
  go_wp2_with (go_at_call 83; refine (within_any _ _ _ _).mono ?_; rintro e w' ⟨rfl, rfl⟩)
  all_goals
    go_ret
    exact RetB.of (ret_bool (by rw [may_is8]; simp [*])) ((Below.refl _ _).alloc (Nat.le_refl _) _)

set_option maxHeartbeats 1000000 in
theorem may9 (a b : Int) (w : World) : Calls Try.prog 76 #[.agg #[.int .i64 9, .int .i64 a, .int .i64 b]] w (RetB (.bool (mayB (9, a, b))) w) := by
  go_enter Try.func76, Try.ntmps76
  go_wp2_with (go_at_call 83; refine (within_any _ _ _ _).mono ?_; rintro e w' ⟨rfl, rfl⟩)
  all_goals
    go_ret
    exact RetB.of (ret_bool (by rw [may_is9]; simp [*])) ((Below.refl _ _).alloc (Nat.le_refl _) _)

set_option maxHeartbeats 1000000 in
theorem may0 (o a b : Int) (w : World) (h : o < 1 ∨ 9 < o) : Calls Try.prog 76 #[.agg #[.int .i64 o, .int .i64 a, .int .i64 b]] w (RetB (.bool (mayB (o, a, b))) w) := by
  have H := Lib.hid (may_out (a := a) (b := b) h)
  have h1 : (o == 1) = false := by simp; omega
  have h2 : (o == 2) = false := by simp; omega
  have h3 : (o == 3) = false := by simp; omega
  have h4 : (o == 4) = false := by simp; omega
  have h5 : (o == 5) = false := by simp; omega
  have h6 : (o == 6) = false := by simp; omega
  have h7 : (o == 7) = false := by simp; omega
  have h8 : (o == 8) = false := by simp; omega
  have h9 : (o == 9) = false := by simp; omega
  clear h
  go_enter Try.func76, Try.ntmps76
  go_wp2_with (go_at_call 83; refine (within_any _ _ _ _).mono ?_; rintro e w' ⟨rfl, rfl⟩)
  all_goals
    go_ret
    exact RetB.of (ret_bool (by rw [H.out])) ((Below.refl _ _).alloc (Nat.le_refl _) _)

theorem may_any (o a b : Int) (w : World) : Calls Try.prog 76 #[.agg #[.int .i64 o, .int .i64 a, .int .i64 b]] w (RetB (.bool (mayB (o, a, b))) w) := by
  have h : (o < 1 ∨ 9 < o) ∨ o = 1 ∨ o = 2 ∨ o = 3 ∨ o = 4 ∨ o = 5 ∨ o = 6 ∨ o = 7 ∨ o = 8 ∨ o = 9 := by omega
  rcases h with h | rfl | rfl | rfl | rfl | rfl | rfl | rfl | rfl | rfl
  · exact may0 o a b w h
  · exact may1 a b w
  · exact may2 a b w
  · exact may3 a b w
  · exact may4 a b w
  · exact may5 a b w
  · exact may6 a b w
  · exact may7 a b w
  · exact may8 a b w
  · exact may9 a b w

set_option maxHeartbeats 1000000 in
theorem rmay1 (a b : Int) (w : World) : Calls Try.prog 70 #[.agg #[.int .i64 1, .int .i64 a, .int .i64 b]] w (RetB (.bool (mayB (1, a, b))) w) := by
  go_enter Try.func70, Try.ntmps70
  go_wp2_with (go_at_call 77; refine (rin_any _ _ _ _).mono ?_; rintro e w' ⟨rfl, rfl⟩)
  all_goals
    go_ret
    exact RetB.of (ret_bool (by rw [may_is1]; simp [*])) ((Below.refl _ _).alloc (Nat.le_refl _) _)

set_option maxHeartbeats 1000000 in
theorem rmay2 (a b : Int) (w : World) : Calls Try.prog 70 #[.agg #[.int .i64 2, .int .i64 a, .int .i64 b]] w (RetB (.bool (mayB (2, a, b))) w) := by
  go_enter Try.func70, Try.ntmps70
  go_wp2_with (go_at_call 77; refine (rin_any _ _ _ _).mono ?_; rintro e w' ⟨rfl, rfl⟩)
  all_goals
    go_ret
    exact RetB.of (ret_bool (by rw [may_is2]; simp [*])) ((Below.refl _ _).alloc (Nat.le_refl _) _)

set_option maxHeartbeats 1000000 in
theorem rmay3 (a b : Int) (w : World) : Calls Try.prog 70 #[.agg #[.int .i64 3, .int .i64 a, .int .i64 b]] w (RetB (.bool (mayB (3, a, b))) w) := by
  go_enter Try.func70, Try.ntmps70
  go_wp2_with (go_at_call 77; refine (rin_any _ _ _ _).mono ?_; rintro e w' ⟨rfl, rfl⟩)
  all_goals
    go_ret
    exact RetB.of (ret_bool (by rw [may_is3]; simp [*])) ((Below.refl _ _).alloc (Nat.le_refl _) _)

set_option maxHeartbeats 1000000 in
theorem rmay4 (a b : Int) (w : World) : Calls Try.prog 70 #[.agg #[.int .i64 4, .int .i64 a, .int .i64 b]] w (RetB (.bool (mayB (4, a, b))) w) := by
  go_enter Try.func70, Try.ntmps70
  go_wp2_with (go_at_call 77; refine (rin_any _ _ _ _).mono ?_; rintro e w' ⟨rfl, rfl⟩)
  all_goals
    go_ret
    exact RetB.of (ret_bool (by rw [may_is4]; simp [*])) ((Below.refl _ _).alloc (Nat.le_refl _) _)

set_option maxHeartbeats 1000000 in
theorem rmay5 (a b : Int) (w : World) : Calls Try.prog 70 #[.agg #[.int .i64 5, .int .i64 a, .int .i64 b]] w (RetB (.bool (mayB (5, a, b))) w) := by
  go_enter Try.func70, Try.ntmps70
  go_wp2_with (go_at_call 77; refine (rin_any _ _ _ _).mono ?_; rintro e w' ⟨rfl, rfl⟩)
  all_goals
    go_ret
    exact RetB.of (ret_bool (by rw [may_is5]; simp [*])) ((Below.refl _ _).alloc (Nat.le_refl _) _)

set_option maxHeartbeats 1000000 in
theorem rmay6 (a b : Int) (w : World) : Calls Try.prog 70 #[.agg #[.int .i64 6, .int .i64 a, .int .i64 b]] w (RetB (.bool (mayB (6, a, b))) w) := by
  go_enter Try.func70, Try.ntmps70
  go_wp2_with (go_at_call 77; refine (rin_any _ _ _ _).mono ?_; rintro e w' ⟨rfl, rfl⟩)
  all_goals
    go_ret
    exact RetB.of (ret_bool (by rw [may_is6]; simp [*])) ((Below.refl _ _).alloc (Nat.le_refl _) _)

set_option maxHeartbeats 1000000 in
theorem rmay7 (a b : Int) (w : World) : Calls Try.prog 70 #[.agg #[.int .i64 7, .int .i64 a, .int .i64 b]] w (RetB (.bool (mayB (7, a, b))) w) := by
  go_enter Try.func70, Try.ntmps70
  go_wp2_with (go_at_call 77; refine (rin_any _ _ _ _).mono ?_; rintro e w' ⟨rfl, rfl⟩)
  all_goals
    go_ret
    exact RetB.of (ret_bool (by rw [may_is7]; simp [*])) ((Below.refl _ _).alloc (Nat.le_refl _) _)

set_option maxHeartbeats 1000000 in
theorem rmay8 (a b : Int) (w : World) : Calls Try.prog 70 #[.agg #[.int .i64 8, .int .i64 a, .int .i64 b]] w (RetB (.bool (mayB (8, a, b))) w) := by
  go_enter Try.func70, Try.ntmps70
  go_wp2_with (go_at_call 77; refine (rin_any _ _ _ _).mono ?_; rintro e w' ⟨rfl, rfl⟩)
  all_goals
    go_ret
    exact RetB.of (ret_bool (by rw [may_is8]; simp [*])) ((Below.refl _ _).alloc (Nat.le_refl _) _)

set_option maxHeartbeats 1000000 in
theorem rmay9 (a b : Int) (w : World) : Calls Try.prog 70 #[.agg #[.int .i64 9, .int .i64 a, .int .i64 b]] w (RetB (.bool (mayB (9, a, b))) w) := by
  go_enter Try.func70, Try.ntmps70
  go_wp2_with (go_at_call 77; refine (rin_any _ _ _ _).mono ?_; rintro e w' ⟨rfl, rfl⟩)
  all_goals
    go_ret
    exact RetB.of (ret_bool (by rw [may_is9]; simp [*])) ((Below.refl _ _).alloc (Nat.le_refl _) _)

set_option maxHeartbeats 1000000 in
theorem rmay0 (o a b : Int) (w : World) (h : o < 1 ∨ 9 < o) : Calls Try.prog 70 #[.agg #[.int .i64 o, .int .i64 a, .int .i64 b]] w (RetB (.bool (mayB (o, a, b))) w) := by
  have H := Lib.hid (may_out (a := a) (b := b) h)
  have h1 : (o == 1) = false := by simp; omega
  have h2 : (o == 2) = false := by simp; omega
  have h3 : (o == 3) = false := by simp; omega
  have h4 : (o == 4) = false := by simp; omega
  have h5 : (o == 5) = false := by simp; omega
  have h6 : (o == 6) = false := by simp; omega
  have h7 : (o == 7) = false := by simp; omega
  have h8 : (o == 8) = false := by simp; omega
  have h9 : (o == 9) = false := by simp; omega
  clear h
  go_enter Try.func70, Try.ntmps70
  go_wp2_with (go_at_call 77; refine (rin_any _ _ _ _).mono ?_; rintro e w' ⟨rfl, rfl⟩)
  all_goals
    go_ret
    exact RetB.of (ret_bool (by rw [H.out])) ((Below.refl _ _).alloc (Nat.le_refl _) _)

theorem rmay_any (o a b : Int) (w : World) : Calls Try.prog 70 #[.agg #[.int .i64 o, .int .i64 a, .int .i64 b]] w (RetB (.bool (mayB (o, a, b))) w) := by
  have h : (o < 1 ∨ 9 < o) ∨ o = 1 ∨ o = 2 ∨ o = 3 ∨ o = 4 ∨ o = 5 ∨ o = 6 ∨ o = 7 ∨ o = 8 ∨ o = 9 := by omega
  rcases h with h | rfl | rfl | rfl | rfl | rfl | rfl | rfl | rfl | rfl
  · exact rmay0 o a b w h
  · exact rmay1 a b w
  · exact rmay2 a b w
  · exact rmay3 a b w
  · exact rmay4 a b w
  · exact rmay5 a b w
  · exact rmay6 a b w
  · exact rmay7 a b w
  · exact rmay8 a b w
  · exact rmay9 a b w

end Go.Proofs.Ytpfnoohcilefhaa

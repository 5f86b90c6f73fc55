/-
  The arithmetic under the library's division of two words by one: two digits of 32 bits, each first guessed, then lowered. Plain mathematics: nothing here speaks of a translation.
-/
import Derived.Test.YtaaffpeppdinhaaBase
import Derived.Laws.Bits64b
import Derived.Lib.ItoaNum
namespace Go.Proofs.Ytaaffpeppdinhaa
open Go.RowKit

/-- What one digit's guess keeps: y1 and y0 are the divisor's halves, un and u1 what is divided, Q the digit. -/
def Guess (y1 y0 un u1 q r : Int) : Prop :=
  0 ≤ q ∧ q ≤ 4294967297 ∧ 0 ≤ r ∧ r < 4294967296 ∧ q * y1 + r = un ∧ (un * 4294967296 + u1) / (y1 * 4294967296 + y0) ≤ q

/-- What is known of a divisor's halves, and of what is divided. -/
def Halves (y1 y0 un u1 : Int) : Prop :=
  2147483648 ≤ y1 ∧ y1 < 4294967296 ∧ 0 ≤ y0 ∧ y0 < 4294967296 ∧ 0 ≤ un ∧ un < y1 * 4294967296 + y0 ∧ 0 ≤ u1 ∧ u1 < 4294967296

theorem digit_bd {y1 y0 un u1 : Int} (h : Halves y1 y0 un u1) :
    0 ≤ (un * 4294967296 + u1) / (y1 * 4294967296 + y0) ∧ (un * 4294967296 + u1) / (y1 * 4294967296 + y0) < 4294967296 ∧
    0 ≤ (un * 4294967296 + u1) % (y1 * 4294967296 + y0) ∧ (un * 4294967296 + u1) % (y1 * 4294967296 + y0) < y1 * 4294967296 + y0 := by
  obtain ⟨a1, a2, b1, b2, c1, c2, d1, d2⟩ := h
  refine ⟨Int.ediv_nonneg (by omega) (by omega), Int.ediv_lt_of_lt_mul (by omega) (by omega), Int.emod_nonneg _ (by omega), Int.emod_lt_of_pos _ (by omega)⟩

theorem guess_start {y1 y0 un u1 : Int} (h : Halves y1 y0 un u1) : Guess y1 y0 un u1 (un / y1) (un - un / y1 * y1) := by
  have hd := digit_bd h
  obtain ⟨a1, a2, b1, b2, c1, c2, d1, d2⟩ := h
  have e1 := Int.mul_ediv_add_emod un y1
  have e2 := Int.emod_nonneg un (b := y1) (by omega)
  have e3 := Int.emod_lt_of_pos un (b := y1) (by omega)
  have e4 : un - un / y1 * y1 = un % y1 := by rw [Int.mul_comm]; omega
  refine ⟨Int.ediv_nonneg c1 (by omega), ?_, by omega, by omega, by omega, ?_⟩
  · have : un / y1 < 4294967298 := Int.ediv_lt_of_lt_mul (by omega) (by omega)
    omega
  · have hq := Int.mul_ediv_add_emod (un * 4294967296 + u1) (y1 * 4294967296 + y0)
    generalize (un * 4294967296 + u1) / (y1 * 4294967296 + y0) = Q at hd hq ⊢
    refine Int.le_ediv_of_mul_le (by omega) ?_
    have hn : 0 ≤ Q * y0 := Int.mul_nonneg hd.1 b1
    rw [Int.add_mul, Int.mul_comm y0 Q] at hq
    have e5 : y1 * 4294967296 * Q = Q * y1 * 4294967296 := by rw [Int.mul_comm (y1 * 4294967296) Q, Int.mul_assoc]
    omega

/-- The test: is the guess too great? -/
def Over (y0 u1 q r : Int) : Prop := 4294967296 ≤ q ∨ 4294967296 * r + u1 < q * y0

theorem over_iff {y1 y0 un u1 q r : Int} (h : Halves y1 y0 un u1) (g : Guess y1 y0 un u1 q r) :
    (¬ Over y0 u1 q r → q = (un * 4294967296 + u1) / (y1 * 4294967296 + y0)) ∧ (Over y0 u1 q r → (un * 4294967296 + u1) / (y1 * 4294967296 + y0) < q) := by
  have hd := digit_bd h
  obtain ⟨a1, a2, b1, b2, c1, c2, d1, d2⟩ := h
  obtain ⟨q1, q2, r1, r2, e, le⟩ := g
  have e1 : q * (y1 * 4294967296 + y0) = (un - r) * 4294967296 + q * y0 := by
    rw [Int.mul_add, ← Int.mul_assoc]; omega
  constructor
  · intro ho
    unfold Over at ho
    have : q ≤ (un * 4294967296 + u1) / (y1 * 4294967296 + y0) := Int.le_ediv_of_mul_le (by omega) (by omega)
    omega
  · intro ho
    rcases ho with ho | ho
    · omega
    · exact Int.ediv_lt_of_lt_mul (by omega) (by omega)

theorem guess_next {y1 y0 un u1 q r : Int} (h : Halves y1 y0 un u1) (g : Guess y1 y0 un u1 q r) (ho : Over y0 u1 q r) :
    1 ≤ q ∧ (r + y1 < 4294967296 → Guess y1 y0 un u1 (q - 1) (r + y1)) ∧ (4294967296 ≤ r + y1 → q - 1 = (un * 4294967296 + u1) / (y1 * 4294967296 + y0)) := by
  have hd := digit_bd h
  have hv := (over_iff h g).2 ho
  obtain ⟨a1, a2, b1, b2, c1, c2, d1, d2⟩ := h
  obtain ⟨q1, q2, r1, r2, e, le⟩ := g
  have e1 : (q - 1) * y1 + (r + y1) = un := by rw [Int.sub_mul]; omega
  refine ⟨by omega, fun hr => ⟨by omega, by omega, by omega, hr, e1, by omega⟩, fun hr => ?_⟩
  have e2 : (q - 1) * (y1 * 4294967296 + y0) = (un - (r + y1)) * 4294967296 + (q - 1) * y0 := by
    rw [Int.mul_add, ← Int.mul_assoc]; omega
  have e3 : (q - 1) * y0 ≤ 4294967296 * 4294967295 := Int.mul_le_mul (by omega) (by omega) b1 (by omega)
  have : q - 1 ≤ (un * 4294967296 + u1) / (y1 * 4294967296 + y0) := Int.le_ediv_of_mul_le (by omega) (by omega)
  omega

theorem guess_small {y1 y0 un u1 q r : Int} (h : Halves y1 y0 un u1) (g : Guess y1 y0 un u1 q r) (hq : q < 4294967296) : 0 ≤ q * y0 ∧ q * y0 < 18446744073709551616 := by
  obtain ⟨a1, a2, b1, b2, c1, c2, d1, d2⟩ := h
  obtain ⟨q1, q2, r1, r2, e, le⟩ := g
  have e3 : q * y0 ≤ 4294967295 * 4294967295 := Int.mul_le_mul (by omega) (by omega) b1 (by omega)
  exact ⟨Int.mul_nonneg q1 b1, by omega⟩

/-- Two digits are the quotient. -/
theorem two_digits {y un u1 u0 : Int} (hy : 0 < y) :
    (un * 4294967296 + u1) / y * 4294967296 + ((un * 4294967296 + u1) % y * 4294967296 + u0) / y = (un * 18446744073709551616 + u1 * 4294967296 + u0) / y := by
  have e := Int.mul_ediv_add_emod (un * 4294967296 + u1) y
  generalize (un * 4294967296 + u1) / y = Q at *
  generalize (un * 4294967296 + u1) % y = R at *
  have e2 : un * 18446744073709551616 + u1 * 4294967296 + u0 = R * 4294967296 + u0 + y * (Q * 4294967296) := by
    rw [← Int.mul_assoc]; omega
  rw [e2, Int.add_mul_ediv_left _ _ (by omega)]
  omega

/-- Bits that do not meet are a sum. -/
theorem or_shift (a b s : Nat) (ha : a * 2 ^ s < 18446744073709551616) (hb : b < 2 ^ s) (hb' : b < 18446744073709551616) : bits .or .u64 ((a * 2 ^ s : Nat) : Int) (b : Int) = ((a * 2 ^ s + b : Nat) : Int) := by
  rw [bits_or_u64_nat _ _ ha hb', Nat.mul_comm, Nat.two_pow_add_eq_or_of_lt hb]

/-- How far a divisor is moved up. -/
theorem norm_y (y : Nat) (h1 : 0 < y) (h2 : y < 18446744073709551616) :
    ∃ s : Nat, (64 - (Lib.bitLen y : Int) = s) ∧ s < 64 ∧ 9223372036854775808 ≤ y * 2 ^ s ∧ y * 2 ^ s < 18446744073709551616 := by
  have hb := Lib.bitLenAux_bounds 64 y (by omega) (by omega)
  have hl : Lib.bitLen y ≤ 64 := Lib.bitLen_le y 64 (by omega) (by omega)
  have e : Lib.bitLen y = Lib.bitLenAux 64 y := rfl
  rw [← e] at hb
  generalize Lib.bitLen y = n at hb hl
  obtain ⟨b1, b2, b3⟩ := hb
  refine ⟨64 - n, by omega, by omega, ?_, ?_⟩
  · have h : 2 ^ (n - 1) * 2 ^ (64 - n) ≤ y * 2 ^ (64 - n) := Nat.mul_le_mul b2 (Nat.le_refl _)
    rw [← Nat.pow_add, show n - 1 + (64 - n) = 63 by omega] at h
    omega
  · have h : y * 2 ^ (64 - n) < 2 ^ n * 2 ^ (64 - n) := (Nat.mul_lt_mul_right (Nat.two_pow_pos _)).2 b3
    rw [← Nat.pow_add, show n + (64 - n) = 64 by omega] at h
    omega

/-- What is divided, moved up: its upper word, its lower word. -/
theorem norm_u (hi lo y s : Nat) (h1 : hi < y) (h2 : lo < 18446744073709551616) (hs : s < 64) (hy : y * 2 ^ s < 18446744073709551616) :
    ∃ U L : Nat, U < y * 2 ^ s ∧ L < 18446744073709551616 ∧ U * 18446744073709551616 + L = (hi * 18446744073709551616 + lo) * 2 ^ s ∧
      bits .or .u64 ((hi * 2 ^ s : Nat) : Int) ((lo / 2 ^ (64 - s) : Nat) : Int) = (U : Int) ∧ lo * 2 ^ s % 18446744073709551616 = L := by
  have hp := Nat.two_pow_pos s
  have hhi : (hi + 1) * 2 ^ s ≤ y * 2 ^ s := Nat.mul_le_mul h1 (Nat.le_refl _)
  rw [Nat.add_mul] at hhi
  have e64 : 2 ^ (64 - s) * 2 ^ s = 18446744073709551616 := by rw [← Nat.pow_add, show 64 - s + s = 64 by omega]
  have hlo : lo / 2 ^ (64 - s) < 2 ^ s := by
    rw [Nat.div_lt_iff_lt_mul (Nat.two_pow_pos _), Nat.mul_comm, e64]
    exact h2
  have hdiv : lo * 2 ^ s / 18446744073709551616 = lo / 2 ^ (64 - s) := by
    rw [← e64]
    exact Nat.mul_div_mul_right _ _ hp
  have hlo' : lo / 2 ^ (64 - s) ≤ lo := Nat.div_le_self _ _
  refine ⟨hi * 2 ^ s + lo / 2 ^ (64 - s), lo * 2 ^ s % 18446744073709551616, by omega, by omega, ?_, or_shift _ _ _ (by omega) hlo (by omega), rfl⟩
  rw [← hdiv, Nat.add_mul (hi * 18446744073709551616)]
  have e2 : hi * 18446744073709551616 * 2 ^ s = hi * 2 ^ s * 18446744073709551616 := Nat.mul_right_comm _ _ _
  omega

end Go.Proofs.Ytaaffpeppdinhaa

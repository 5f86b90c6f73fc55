/-
  The walk of the law CalcOrder of layer 2: fractions are in an order.
-/
import Derived.Test.YtaaffpeppdinhaaLive
namespace Go.Proofs.Ytaaffpeppdinhaa
open Go.RowKit

theorem cmp_no (a b c d : Int) (w : World) (ha : Fit a) (hb : Fit b) (hc : Fit c) (hd : Fit d) (h : b < 1 ∨ d < 1) :
    Calls Try.prog 20 #[.int .i64 a, .int .i64 b, .int .i64 c, .int .i64 d] w (RetB (.tuple #[.int .i64 0, .int .i64 1]) w) := by
  have := cmp_any a b c d w ha hb hc hd
  rwa [show cmpZ a b c d = 0 from if_pos h, show cmpE b d = 1 from if_pos h] at this
theorem cmp_as (a b c d v : Int) (w : World) (ha : Fit a) (hb : Fit b) (hc : Fit c) (hd : Fit d) (h : ¬ (b < 1 ∨ d < 1)) (hv : sgn (a * d) (c * b) = v) :
    Calls Try.prog 20 #[.int .i64 a, .int .i64 b, .int .i64 c, .int .i64 d] w (RetB (.tuple #[.int .i64 v, .int .i64 0]) w) := by
  have := cmp_any a b c d w ha hb hc hd
  rwa [show cmpZ a b c d = sgn (a * d) (c * b) from if_neg h, show cmpE b d = 0 from if_neg h, hv] at this
theorem sgn_swap (x y : Int) : sgn y x = - sgn x y := by
  unfold sgn
  by_cases h : x = y
  · rw [if_pos h, if_pos h.symm]; rfl
  · rw [if_neg h, if_neg (Ne.symm h)]
    by_cases h2 : x < y
    · rw [if_pos h2, if_neg (by omega)]; rfl
    · rw [if_neg h2, if_pos (by omega)]
theorem sgn_cases (x y : Int) : sgn x y = -1 ∧ x < y ∨ sgn x y = 0 ∧ x = y ∨ sgn x y = 1 ∧ y < x := by
  unfold sgn
  by_cases h : x = y
  · rw [if_pos h]; exact .inr (.inl ⟨rfl, h⟩)
  · rw [if_neg h]
    by_cases h2 : x < y
    · rw [if_pos h2]; exact .inl ⟨rfl, h2⟩
    · rw [if_neg h2]; exact .inr (.inr ⟨rfl, by omega⟩)
theorem gapE_cases (a b c d : Int) : gapE a b c d = 0 ∨ gapE a b c d = 4 := by
  unfold gapE first4
  rcases te_cases (a * d) with h1 | h1 <;> rcases te_cases (c * b) with h2 | h2 <;> rcases te_cases (dist (a * d) (c * b)) with h3 | h3 <;> rcases te_cases (b * d) with h4 | h4 <;> simp [h1.1, h2.1, h3.1, h4.1]
theorem gap_no (a b c d : Int) (w : World) (ha : Fit a) (hb : Fit b) (hc : Fit c) (hd : Fit d) (h1 : ¬ b < 1) (h2 : ¬ d < 1) (he : gapE a b c d = 4) :
    Calls Try.prog 22 #[.int .i64 a, .int .i64 b, .int .i64 c, .int .i64 d] w (RetB (.tuple #[.int .i64 0, .int .i64 0, .int .i64 4]) w) := by
  have := gap_bad a b c d w ha hb hc hd h1 h2 (by omega)
  rwa [he] at this
theorem gap_as (a b c d p q : Int) (w : World) (ha : Fit a) (hb : Fit b) (hc : Fit c) (hd : Fit d) (h1 : ¬ b < 1) (h2 : ¬ d < 1) (he : gapE a b c d = 0) (hp : dist (a * d) (c * b) = p) (hq : b * d = q) :
    Calls Try.prog 22 #[.int .i64 a, .int .i64 b, .int .i64 c, .int .i64 d] w (RetB (.tuple #[.int .i64 p, .int .i64 q, .int .i64 0]) w) := by
  have := gap_ok a b c d w ha hb hc hd h1 h2 he
  rwa [hp, hq] at this

/-- With what is between, all three hang together. -/
theorem frac_eq (a b c d m n : Int) : (a * n - m * b) * d = (a * d - c * b) * n + (c * n - m * d) * b := by
  simp only [Int.sub_mul]
  have e1 : a * n * d = a * d * n := by rw [Int.mul_assoc, Int.mul_comm n d, ← Int.mul_assoc]
  have e2 : c * n * b = c * b * n := by rw [Int.mul_assoc, Int.mul_comm n b, ← Int.mul_assoc]
  have e3 : m * b * d = m * d * b := by rw [Int.mul_assoc, Int.mul_comm b d, ← Int.mul_assoc]
  omega

theorem frac_le {a b c d m n : Int} (hb : 1 ≤ b) (hd : 1 ≤ d) (hn : 1 ≤ n) (h1 : a * d ≤ c * b) (h2 : c * n ≤ m * d) : a * n ≤ m * b := by
  apply Classical.byContradiction
  intro h
  have e := frac_eq a b c d m n
  have p1 : 0 < (a * n - m * b) * d := Int.mul_pos (by omega) (by omega)
  have p2 : 0 ≤ (c * b - a * d) * n := Int.mul_nonneg (by omega) (by omega)
  have p3 : 0 ≤ (m * d - c * n) * b := Int.mul_nonneg (by omega) (by omega)
  simp only [Int.sub_mul] at e p1 p2 p3
  omega
theorem frac_lt {a b c d m n : Int} (hb : 1 ≤ b) (hd : 1 ≤ d) (hn : 1 ≤ n) (h1 : a * d ≤ c * b) (h2 : c * n ≤ m * d) (h3 : a * d < c * b ∨ c * n < m * d) : a * n < m * b := by
  apply Classical.byContradiction
  intro h
  have e := frac_eq a b c d m n
  have p1 : 0 ≤ (a * n - m * b) * d := Int.mul_nonneg (by omega) (by omega)
  have p2 : 0 ≤ (c * b - a * d) * n := Int.mul_nonneg (by omega) (by omega)
  have p3 : 0 ≤ (m * d - c * n) * b := Int.mul_nonneg (by omega) (by omega)
  rcases h3 with h3 | h3
  · have p4 : 0 < (c * b - a * d) * n := Int.mul_pos (by omega) (by omega)
    simp only [Int.sub_mul] at e p1 p2 p3 p4
    omega
  · have p4 : 0 < (m * d - c * n) * b := Int.mul_pos (by omega) (by omega)
    simp only [Int.sub_mul] at e p1 p2 p3 p4
    omega

theorem order_b (a b c d m n : Int) (w : World) (fa : Fit a) (fb : Fit b) (fc : Fit c) (fd : Fit d) (fm : Fit m) (fn : Fit n) (h1 : b < 1) :
    Calls Try.prog 7 #[.int .i64 a, .int .i64 b, .int .i64 c, .int .i64 d, .int .i64 m, .int .i64 n] w (TrueAns w) := by
  have FA := Lib.hid fa
  have FB := Lib.hid fb
  have FC := Lib.hid fc
  have FD := Lib.hid fd
  have FM := Lib.hid fm
  have FN := Lib.hid fn
  clear fa fb fc fd fm fn
  go_enter Try.func7, Try.ntmps7
  go_wp2_with fail
  refine (live_any _).mono ?_
  rintro e w1 ⟨rfl, hb1⟩
  have HB1 := Lib.hid hb1
  clear hb1
  go_wp2_with fail
  refine (cmp_no a b c d _ FA.out FB.out FC.out FD.out (.inl (by omega))).mono ?_
  rintro e w2 ⟨rfl, hb2⟩
  have HB2 := Lib.hid hb2
  clear hb2
  go_wp2_with fail
  refine (cmp_no c d a b _ FC.out FD.out FA.out FB.out (.inr (by omega))).mono ?_
  rintro e w3 ⟨rfl, hb3⟩
  have HB3 := Lib.hid hb3
  clear hb3
  go_wp2_with fail
  refine (cmp_any c d m n _ FC.out FD.out FM.out FN.out).mono ?_
  rintro e w4 ⟨rfl, hb4⟩
  have HB4 := Lib.hid hb4
  clear hb4
  go_wp2_with fail
  refine (cmp_any a b m n _ FA.out FB.out FM.out FN.out).mono ?_
  rintro e w5 ⟨rfl, hb5⟩
  have HB5 := Lib.hid hb5
  clear hb5
  go_wp2
  go_ret
  exact ⟨ret_bool (by first | rfl | (simp; done) | (simp; omega)), below3 (below3 (below3 (below3 (HB1.out) HB2.out) HB3.out) HB4.out) HB5.out⟩

theorem order_d (a b c d m n : Int) (w : World) (fa : Fit a) (fb : Fit b) (fc : Fit c) (fd : Fit d) (fm : Fit m) (fn : Fit n) (h1 : 1 ≤ b) (h2 : d < 1) :
    Calls Try.prog 7 #[.int .i64 a, .int .i64 b, .int .i64 c, .int .i64 d, .int .i64 m, .int .i64 n] w (TrueAns w) := by
  have FA := Lib.hid fa
  have FB := Lib.hid fb
  have FC := Lib.hid fc
  have FD := Lib.hid fd
  have FM := Lib.hid fm
  have FN := Lib.hid fn
  clear fa fb fc fd fm fn
  go_enter Try.func7, Try.ntmps7
  go_wp2_with fail
  refine (live_any _).mono ?_
  rintro e w1 ⟨rfl, hb1⟩
  have HB1 := Lib.hid hb1
  clear hb1
  go_wp2_with fail
  refine (cmp_no a b c d _ FA.out FB.out FC.out FD.out (.inr (by omega))).mono ?_
  rintro e w2 ⟨rfl, hb2⟩
  have HB2 := Lib.hid hb2
  clear hb2
  go_wp2_with fail
  refine (cmp_no c d a b _ FC.out FD.out FA.out FB.out (.inl (by omega))).mono ?_
  rintro e w3 ⟨rfl, hb3⟩
  have HB3 := Lib.hid hb3
  clear hb3
  go_wp2_with fail
  refine (cmp_any c d m n _ FC.out FD.out FM.out FN.out).mono ?_
  rintro e w4 ⟨rfl, hb4⟩
  have HB4 := Lib.hid hb4
  clear hb4
  go_wp2_with fail
  refine (cmp_any a b m n _ FA.out FB.out FM.out FN.out).mono ?_
  rintro e w5 ⟨rfl, hb5⟩
  have HB5 := Lib.hid hb5
  clear hb5
  go_wp2
  go_ret
  exact ⟨ret_bool (by first | rfl | (simp; done) | (simp; omega)), below3 (below3 (below3 (below3 (HB1.out) HB2.out) HB3.out) HB4.out) HB5.out⟩

end Go.Proofs.Ytaaffpeppdinhaa

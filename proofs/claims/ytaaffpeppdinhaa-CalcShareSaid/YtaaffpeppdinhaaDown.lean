/-
  The walk of the law CalcDown of layer 2: a product by a number, down, is the greatest that is no more.
-/
import Derived.Test.YtaaffpeppdinhaaMulDiv
import Derived.Test.YtaaffpeppdinhaaOrder0
namespace Go.Proofs.Ytaaffpeppdinhaa
open Go.RowKit

theorem muldiv_as (a b c q : Int) (w : World) (ha : Fit a) (hb : Fit b) (hc : Fit c) (h1 : 0 ≤ a) (h2 : 0 ≤ b) (h3 : 1 ≤ c) (hq : Fit q) (e : a * b / c = q) :
    Calls Try.prog 18 #[.int .i64 a, .int .i64 b, .int .i64 c] w (RetB (.tuple #[.int .i64 q, .int .i64 0]) w) := by
  subst e
  have := muldiv_yes a b c w ha hb hc h1 h2 h3
  rwa [show tz (a * b / c) = a * b / c from if_pos hq, show te (a * b / c) = 0 from if_pos hq] at this
theorem muldiv_big (a b c : Int) (w : World) (ha : Fit a) (hb : Fit b) (hc : Fit c) (h1 : 0 ≤ a) (h2 : 0 ≤ b) (h3 : 1 ≤ c) (hq : ¬ Fit (a * b / c)) :
    Calls Try.prog 18 #[.int .i64 a, .int .i64 b, .int .i64 c] w (RetB (.tuple #[.int .i64 0, .int .i64 4]) w) := by
  have := muldiv_yes a b c w ha hb hc h1 h2 h3
  rwa [show tz (a * b / c) = 0 from if_neg hq, show te (a * b / c) = 4 from if_neg hq] at this

theorem down_a (a b c : Int) (w : World) (h1 : a < 0) :
    Calls Try.prog 6 #[.int .i64 a, .int .i64 b, .int .i64 c] w (TrueAns w) := by
  go_enter Try.func6, Try.ntmps6
  go_wp2_with fail
  refine (live_any _).mono ?_
  rintro e w1 ⟨rfl, hb1⟩
  have HB1 := Lib.hid hb1
  clear hb1
  go_wp2_with fail
  refine (muldiv_no a b c _ (.inl h1)).mono ?_
  rintro e w2 ⟨rfl, hb2⟩
  have HB2 := Lib.hid hb2
  clear hb2
  go_wp2
  go_ret
  exact ⟨ret_bool (by first | rfl | (simp; done) | (simp; omega)), below3 (HB1.out) HB2.out⟩

theorem down_b (a b c : Int) (w : World) (h1 : 0 ≤ a) (h2 : b < 0) :
    Calls Try.prog 6 #[.int .i64 a, .int .i64 b, .int .i64 c] w (TrueAns w) := by
  go_enter Try.func6, Try.ntmps6
  go_wp2_with fail
  refine (live_any _).mono ?_
  rintro e w1 ⟨rfl, hb1⟩
  have HB1 := Lib.hid hb1
  clear hb1
  go_wp2_with fail
  refine (muldiv_no a b c _ (.inr (.inl h2))).mono ?_
  rintro e w2 ⟨rfl, hb2⟩
  have HB2 := Lib.hid hb2
  clear hb2
  go_wp2
  go_ret
  exact ⟨ret_bool (by first | rfl | (simp; done) | (simp; omega)), below3 (HB1.out) HB2.out⟩

theorem down_c (a b c : Int) (w : World) (h1 : 0 ≤ a) (h2 : 0 ≤ b) (h3 : c < 1) :
    Calls Try.prog 6 #[.int .i64 a, .int .i64 b, .int .i64 c] w (TrueAns w) := by
  go_enter Try.func6, Try.ntmps6
  go_wp2_with fail
  refine (live_any _).mono ?_
  rintro e w1 ⟨rfl, hb1⟩
  have HB1 := Lib.hid hb1
  clear hb1
  go_wp2_with fail
  refine (muldiv_no a b c _ (.inr (.inr (by omega)))).mono ?_
  rintro e w2 ⟨rfl, hb2⟩
  have HB2 := Lib.hid hb2
  clear hb2
  go_wp2
  go_ret
  exact ⟨ret_bool (by first | rfl | (simp; done) | (simp; omega)), below3 (HB1.out) HB2.out⟩

theorem down_big (a b c : Int) (w : World) (fa : Fit a) (fb : Fit b) (fc : Fit c) (h1 : 0 ≤ a) (h2 : 0 ≤ b) (h3 : 1 ≤ c) (hq : ¬ Fit (a * b / c)) :
    Calls Try.prog 6 #[.int .i64 a, .int .i64 b, .int .i64 c] w (TrueAns w) := by
  have FA := Lib.hid fa
  have FB := Lib.hid fb
  have FC := Lib.hid fc
  have HQ := Lib.hid hq
  clear fa fb fc hq
  go_enter Try.func6, Try.ntmps6
  go_wp2_with fail
  refine (live_any _).mono ?_
  rintro e w1 ⟨rfl, hb1⟩
  have HB1 := Lib.hid hb1
  clear hb1
  go_wp2_with fail
  refine (muldiv_big a b c _ FA.out FB.out FC.out h1 h2 h3 HQ.out).mono ?_
  rintro e w2 ⟨rfl, hb2⟩
  have HB2 := Lib.hid hb2
  clear hb2
  go_wp2
  go_ret
  exact ⟨ret_bool (by first | rfl | (simp; done) | (simp; omega)), below3 (HB1.out) HB2.out⟩

theorem down_zero (a c : Int) (w : World) (fa : Fit a) (fc : Fit c) (h1 : 0 ≤ a) (h3 : 1 ≤ c) :
    Calls Try.prog 6 #[.int .i64 a, .int .i64 0, .int .i64 c] w (TrueAns w) := by
  have FA := Lib.hid fa
  have FC := Lib.hid fc
  clear fa fc
  go_enter Try.func6, Try.ntmps6
  go_wp2_with fail
  refine (live_any _).mono ?_
  rintro e w1 ⟨rfl, hb1⟩
  have HB1 := Lib.hid hb1
  clear hb1
  go_wp2_with fail
  refine (muldiv_as a 0 c 0 _ FA.out (by unfold Fit; omega) FC.out h1 (by omega) h3 (by unfold Fit; omega) (by simp)).mono ?_
  rintro e w2 ⟨rfl, hb2⟩
  have HB2 := Lib.hid hb2
  clear hb2
  go_wp2
  go_ret
  exact ⟨ret_bool (by first | rfl | (simp; done) | (simp; omega)), below3 (HB1.out) HB2.out⟩

theorem down_ln (a b c q : Int) (w : World) (fa : Fit a) (fb : Fit b) (fc : Fit c) (h1 : 0 ≤ a) (h2 : 1 ≤ b) (h3 : 1 ≤ c) (h4 : (b == 0) = false) (hq : a * b / c = q) (q0 : 0 ≤ q) (q1 : q < 9223372036854775807) (s1 : sgn (q * c) (a * b) = -1) (s2 : sgn ((q + 1) * c) (a * b) = 1) :
    Calls Try.prog 6 #[.int .i64 a, .int .i64 b, .int .i64 c] w (TrueAns w) := by
  have FA := Lib.hid fa
  have FB := Lib.hid fb
  have FC := Lib.hid fc
  have HQ := Lib.hid hq
  have S1 := Lib.hid s1
  have S2 := Lib.hid s2
  clear fa fb fc hq s1 s2
  go_enter Try.func6, Try.ntmps6
  go_wp2_with fail
  refine (live_any _).mono ?_
  rintro e w1 ⟨rfl, hb1⟩
  have HB1 := Lib.hid hb1
  clear hb1
  go_wp2_with fail
  refine (muldiv_as a b c q _ FA.out FB.out FC.out h1 (by omega) h3 (by unfold Fit; omega) HQ.out).mono ?_
  rintro e w2 ⟨rfl, hb2⟩
  have HB2 := Lib.hid hb2
  clear hb2
  go_wp2_with fail
  refine (cmp_as q b a c (-1) _ (by unfold Fit; omega) FB.out FA.out FC.out (by omega) S1.out).mono ?_
  rintro e w3 ⟨rfl, hb3⟩
  have HB3 := Lib.hid hb3
  clear hb3
  go_wp2_with fail
  refine (cmp_as q b a c (-1) _ (by unfold Fit; omega) FB.out FA.out FC.out (by omega) S1.out).mono ?_
  rintro e w4 ⟨rfl, hb4⟩
  have HB4 := Lib.hid hb4
  clear hb4
  go_wp2_with fail
  refine (cmp_as (q + 1) b a c 1 _ (by unfold Fit; omega) FB.out FA.out FC.out (by omega) S2.out).mono ?_
  rintro e w5 ⟨rfl, hb5⟩
  have HB5 := Lib.hid hb5
  clear hb5
  go_wp2
  go_ret
  exact ⟨ret_bool (by first | rfl | (simp; done) | (simp; omega)), below3 (below3 (below3 (below3 (HB1.out) HB2.out) HB3.out) HB4.out) HB5.out⟩

theorem down_lt (a b c : Int) (w : World) (fa : Fit a) (fb : Fit b) (fc : Fit c) (h1 : 0 ≤ a) (h2 : 1 ≤ b) (h3 : 1 ≤ c) (h4 : (b == 0) = false) (hq : a * b / c = 9223372036854775807) (s1 : sgn (9223372036854775807 * c) (a * b) = -1) :
    Calls Try.prog 6 #[.int .i64 a, .int .i64 b, .int .i64 c] w (TrueAns w) := by
  have FA := Lib.hid fa
  have FB := Lib.hid fb
  have FC := Lib.hid fc
  have HQ := Lib.hid hq
  have S1 := Lib.hid s1
  clear fa fb fc hq s1
  go_enter Try.func6, Try.ntmps6
  go_wp2_with fail
  refine (live_any _).mono ?_
  rintro e w1 ⟨rfl, hb1⟩
  have HB1 := Lib.hid hb1
  clear hb1
  go_wp2_with fail
  refine (muldiv_as a b c 9223372036854775807 _ FA.out FB.out FC.out h1 (by omega) h3 (by unfold Fit; omega) HQ.out).mono ?_
  rintro e w2 ⟨rfl, hb2⟩
  have HB2 := Lib.hid hb2
  clear hb2
  go_wp2_with fail
  refine (cmp_as 9223372036854775807 b a c (-1) _ (by unfold Fit; omega) FB.out FA.out FC.out (by omega) S1.out).mono ?_
  rintro e w3 ⟨rfl, hb3⟩
  have HB3 := Lib.hid hb3
  clear hb3
  go_wp2_with fail
  refine (cmp_as 9223372036854775807 b a c (-1) _ (by unfold Fit; omega) FB.out FA.out FC.out (by omega) S1.out).mono ?_
  rintro e w4 ⟨rfl, hb4⟩
  have HB4 := Lib.hid hb4
  clear hb4
  go_wp2
  go_ret
  exact ⟨ret_bool (by first | rfl | (simp; done) | (simp; omega)), below3 (below3 (below3 (HB1.out) HB2.out) HB3.out) HB4.out⟩

theorem down_en (a b c q : Int) (w : World) (fa : Fit a) (fb : Fit b) (fc : Fit c) (h1 : 0 ≤ a) (h2 : 1 ≤ b) (h3 : 1 ≤ c) (h4 : (b == 0) = false) (hq : a * b / c = q) (q0 : 0 ≤ q) (q1 : q < 9223372036854775807) (s1 : sgn (q * c) (a * b) = 0) (s2 : sgn ((q + 1) * c) (a * b) = 1) :
    Calls Try.prog 6 #[.int .i64 a, .int .i64 b, .int .i64 c] w (TrueAns w) := by
  have FA := Lib.hid fa
  have FB := Lib.hid fb
  have FC := Lib.hid fc
  have HQ := Lib.hid hq
  have S1 := Lib.hid s1
  have S2 := Lib.hid s2
  clear fa fb fc hq s1 s2
  go_enter Try.func6, Try.ntmps6
  go_wp2_with fail
  refine (live_any _).mono ?_
  rintro e w1 ⟨rfl, hb1⟩
  have HB1 := Lib.hid hb1
  clear hb1
  go_wp2_with fail
  refine (muldiv_as a b c q _ FA.out FB.out FC.out h1 (by omega) h3 (by unfold Fit; omega) HQ.out).mono ?_
  rintro e w2 ⟨rfl, hb2⟩
  have HB2 := Lib.hid hb2
  clear hb2
  go_wp2_with fail
  refine (cmp_as q b a c (0) _ (by unfold Fit; omega) FB.out FA.out FC.out (by omega) S1.out).mono ?_
  rintro e w3 ⟨rfl, hb3⟩
  have HB3 := Lib.hid hb3
  clear hb3
  go_wp2_with fail
  refine (cmp_as q b a c (0) _ (by unfold Fit; omega) FB.out FA.out FC.out (by omega) S1.out).mono ?_
  rintro e w4 ⟨rfl, hb4⟩
  have HB4 := Lib.hid hb4
  clear hb4
  go_wp2_with fail
  refine (cmp_as (q + 1) b a c 1 _ (by unfold Fit; omega) FB.out FA.out FC.out (by omega) S2.out).mono ?_
  rintro e w5 ⟨rfl, hb5⟩
  have HB5 := Lib.hid hb5
  clear hb5
  go_wp2
  go_ret
  exact ⟨ret_bool (by first | rfl | (simp; done) | (simp; omega)), below3 (below3 (below3 (below3 (HB1.out) HB2.out) HB3.out) HB4.out) HB5.out⟩

theorem down_et (a b c : Int) (w : World) (fa : Fit a) (fb : Fit b) (fc : Fit c) (h1 : 0 ≤ a) (h2 : 1 ≤ b) (h3 : 1 ≤ c) (h4 : (b == 0) = false) (hq : a * b / c = 9223372036854775807) (s1 : sgn (9223372036854775807 * c) (a * b) = 0) :
    Calls Try.prog 6 #[.int .i64 a, .int .i64 b, .int .i64 c] w (TrueAns w) := by
  have FA := Lib.hid fa
  have FB := Lib.hid fb
  have FC := Lib.hid fc
  have HQ := Lib.hid hq
  have S1 := Lib.hid s1
  clear fa fb fc hq s1
  go_enter Try.func6, Try.ntmps6
  go_wp2_with fail
  refine (live_any _).mono ?_
  rintro e w1 ⟨rfl, hb1⟩
  have HB1 := Lib.hid hb1
  clear hb1
  go_wp2_with fail
  refine (muldiv_as a b c 9223372036854775807 _ FA.out FB.out FC.out h1 (by omega) h3 (by unfold Fit; omega) HQ.out).mono ?_
  rintro e w2 ⟨rfl, hb2⟩
  have HB2 := Lib.hid hb2
  clear hb2
  go_wp2_with fail
  refine (cmp_as 9223372036854775807 b a c (0) _ (by unfold Fit; omega) FB.out FA.out FC.out (by omega) S1.out).mono ?_
  rintro e w3 ⟨rfl, hb3⟩
  have HB3 := Lib.hid hb3
  clear hb3
  go_wp2_with fail
  refine (cmp_as 9223372036854775807 b a c (0) _ (by unfold Fit; omega) FB.out FA.out FC.out (by omega) S1.out).mono ?_
  rintro e w4 ⟨rfl, hb4⟩
  have HB4 := Lib.hid hb4
  clear hb4
  go_wp2
  go_ret
  exact ⟨ret_bool (by first | rfl | (simp; done) | (simp; omega)), below3 (below3 (below3 (HB1.out) HB2.out) HB3.out) HB4.out⟩

theorem down_any (a b c : Int) (w : World) (fa : Fit a) (fb : Fit b) (fc : Fit c) : Calls Try.prog 6 #[.int .i64 a, .int .i64 b, .int .i64 c] w (TrueAns w) := by
  by_cases h1 : a < 0
  · exact down_a a b c w h1
  have h1 : 0 ≤ a := by omega
  by_cases h2 : b < 0
  · exact down_b a b c w h1 h2
  have h2 : 0 ≤ b := by omega
  by_cases h3 : c < 1
  · exact down_c a b c w h1 h2 h3
  have h3 : 1 ≤ c := by omega
  by_cases hq : Fit (a * b / c)
  rotate_left
  · exact down_big a b c w fa fb fc h1 h2 h3 hq
  by_cases hb : b = 0
  · subst hb
    exact down_zero a c w fa fc h1 h3
  have h4 : (b == 0) = false := by simpa using hb
  have h2 : 1 ≤ b := by omega
  have e1 := Int.mul_ediv_add_emod (a * b) c
  have e2 := Int.emod_nonneg (a * b) (b := c) (by omega)
  have e3 := Int.emod_lt_of_pos (a * b) (b := c) (by omega)
  have e4 : c * (a * b / c) = a * b / c * c := Int.mul_comm _ _
  have q0 : 0 ≤ a * b / c := Int.ediv_nonneg (Int.mul_nonneg h1 (by omega)) (by omega)
  have q1 : a * b / c ≤ 9223372036854775807 := hq.2
  have hs : sgn (a * b / c * c) (a * b) = -1 ∨ sgn (a * b / c * c) (a * b) = 0 := by
    rcases sgn_cases (a * b / c * c) (a * b) with ⟨h, -⟩ | ⟨h, -⟩ | ⟨-, h⟩
    · exact .inl h
    · exact .inr h
    · omega
  by_cases ht : a * b / c = 9223372036854775807
  · rw [ht] at hs
    rcases hs with hs | hs
    · exact down_lt a b c w fa fb fc h1 h2 h3 h4 ht hs
    · exact down_et a b c w fa fb fc h1 h2 h3 h4 ht hs
  · have hn : sgn ((a * b / c + 1) * c) (a * b) = 1 := by
      have e5 : (a * b / c + 1) * c = a * b / c * c + c := by rw [Int.add_mul]; omega
      rcases sgn_cases ((a * b / c + 1) * c) (a * b) with ⟨-, h⟩ | ⟨-, h⟩ | ⟨h, -⟩
      · omega
      · omega
      · exact h
    rcases hs with hs | hs
    · exact down_ln a b c (a * b / c) w fa fb fc h1 h2 h3 h4 rfl q0 (by omega) hs hn
    · exact down_en a b c (a * b / c) w fa fb fc h1 h2 h3 h4 rfl q0 (by omega) hs hn

end Go.Proofs.Ytaaffpeppdinhaa

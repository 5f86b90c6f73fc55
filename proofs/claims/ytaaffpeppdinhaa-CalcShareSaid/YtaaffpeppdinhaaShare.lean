/-
  The walk of the law CalcShare of layer 2: a part of a number is no more than it; of all of it, it; of what is greater no less.
-/
import Derived.Test.YtaaffpeppdinhaaDown
namespace Go.Proofs.Ytaaffpeppdinhaa
open Go.RowKit

theorem share_a (a b c d : Int) (w : World) (h1 : a < 0) :
    Calls Try.prog 9 #[.int .i64 a, .int .i64 b, .int .i64 c, .int .i64 d] w (TrueAns w) := by
  go_enter Try.func9, Try.ntmps9
  go_wp2_with fail
  refine (live_any _).mono ?_
  rintro e w1 ⟨rfl, hb1⟩
  have HB1 := Lib.hid hb1
  clear hb1
  go_wp2
  go_ret
  exact ⟨ret_bool (by first | rfl | (simp; done) | (simp; omega)), HB1.out⟩

theorem share_b (a b c d : Int) (w : World) (h1 : 0 ≤ a) (h2 : b < 0) :
    Calls Try.prog 9 #[.int .i64 a, .int .i64 b, .int .i64 c, .int .i64 d] w (TrueAns w) := by
  go_enter Try.func9, Try.ntmps9
  go_wp2_with fail
  refine (live_any _).mono ?_
  rintro e w1 ⟨rfl, hb1⟩
  have HB1 := Lib.hid hb1
  clear hb1
  go_wp2
  go_ret
  exact ⟨ret_bool (by first | rfl | (simp; done) | (simp; omega)), HB1.out⟩

theorem share_c (a b c d : Int) (w : World) (h1 : 0 ≤ a) (h2 : 0 ≤ b) (h3 : c < 1) :
    Calls Try.prog 9 #[.int .i64 a, .int .i64 b, .int .i64 c, .int .i64 d] w (TrueAns w) := by
  go_enter Try.func9, Try.ntmps9
  go_wp2_with fail
  refine (live_any _).mono ?_
  rintro e w1 ⟨rfl, hb1⟩
  have HB1 := Lib.hid hb1
  clear hb1
  go_wp2
  go_ret
  exact ⟨ret_bool (by first | rfl | (simp; done) | (simp; omega)), HB1.out⟩

theorem share_d (a b c d : Int) (w : World) (h1 : 0 ≤ a) (h2 : 0 ≤ b) (h3 : 1 ≤ c) (h4 : d < 0) :
    Calls Try.prog 9 #[.int .i64 a, .int .i64 b, .int .i64 c, .int .i64 d] w (TrueAns w) := by
  go_enter Try.func9, Try.ntmps9
  go_wp2_with fail
  refine (live_any _).mono ?_
  rintro e w1 ⟨rfl, hb1⟩
  have HB1 := Lib.hid hb1
  clear hb1
  go_wp2
  go_ret
  exact ⟨ret_bool (by first | rfl | (simp; done) | (simp; omega)), HB1.out⟩

theorem share_bc (a b c d : Int) (w : World) (h1 : 0 ≤ a) (h2 : 0 ≤ b) (h3 : 1 ≤ c) (h4 : 0 ≤ d) (h5 : c < b) :
    Calls Try.prog 9 #[.int .i64 a, .int .i64 b, .int .i64 c, .int .i64 d] w (TrueAns w) := by
  go_enter Try.func9, Try.ntmps9
  go_wp2_with fail
  refine (live_any _).mono ?_
  rintro e w1 ⟨rfl, hb1⟩
  have HB1 := Lib.hid hb1
  clear hb1
  go_wp2
  go_ret
  exact ⟨ret_bool (by first | rfl | (simp; done) | (simp; omega)), HB1.out⟩

theorem share_max_a (a b c d x y : Int) (w : World) (fa : Fit a) (fb : Fit b) (fc : Fit c) (fd : Fit d) (h1 : 0 ≤ a) (h2 : 0 ≤ b) (h3 : 1 ≤ c) (h4 : 0 ≤ d) (h5 : b ≤ c) (m0 : max a d = a) (hx : a * b / c = x) (hc : a * c / c = a) (hz : a * 0 / c = 0) (hy : a * b / c = y) (x1 : 0 ≤ x) (x2 : x ≤ a) (y1 : x ≤ y) (y2 : y ≤ a) :
    Calls Try.prog 9 #[.int .i64 a, .int .i64 b, .int .i64 c, .int .i64 d] w (TrueAns w) := by
  have FA := Lib.hid fa
  have FB := Lib.hid fb
  have FC := Lib.hid fc
  have FD := Lib.hid fd
  have HX := Lib.hid hx
  have HC := Lib.hid hc
  have HZ := Lib.hid hz
  have HY := Lib.hid hy
  clear fa fb fc fd hx hc hz hy
  go_enter Try.func9, Try.ntmps9
  go_wp2_with fail
  refine (live_any _).mono ?_
  rintro e w1 ⟨rfl, hb1⟩
  have HB1 := Lib.hid hb1
  clear hb1
  go_wp2_with fail
  refine (muldiv_as a b c x _ FA.out FB.out FC.out h1 h2 h3 (by have := FA.out; unfold Fit at *; omega) HX.out).mono ?_
  rintro e w2 ⟨rfl, hb2⟩
  have HB2 := Lib.hid hb2
  clear hb2
  go_wp2_with fail
  refine (muldiv_as a c c a _ FA.out FC.out FC.out h1 (by omega) h3 FA.out HC.out).mono ?_
  rintro e w3 ⟨rfl, hb3⟩
  have HB3 := Lib.hid hb3
  clear hb3
  go_wp2_with fail
  refine (muldiv_as a 0 c 0 _ FA.out (by unfold Fit; omega) FC.out h1 (by omega) h3 (by unfold Fit; omega) HZ.out).mono ?_
  rintro e w4 ⟨rfl, hb4⟩
  have HB4 := Lib.hid hb4
  clear hb4
  go_wp2_with fail
  refine (muldiv_as a b c y _ FA.out FB.out FC.out (by omega) h2 h3 (by have := FA.out; unfold Fit at *; omega) HY.out).mono ?_
  rintro e w5 ⟨rfl, hb5⟩
  have HB5 := Lib.hid hb5
  clear hb5
  go_wp2
  go_ret
  exact ⟨ret_bool (by first | rfl | (simp; done) | (simp; omega)), below3 (below3 (below3 (below3 (HB1.out) HB2.out) HB3.out) HB4.out) HB5.out⟩

theorem share_max_d (a b c d x y : Int) (w : World) (fa : Fit a) (fb : Fit b) (fc : Fit c) (fd : Fit d) (h1 : 0 ≤ a) (h2 : 0 ≤ b) (h3 : 1 ≤ c) (h4 : 0 ≤ d) (h5 : b ≤ c) (m0 : max a d = d) (hx : a * b / c = x) (hc : a * c / c = a) (hz : a * 0 / c = 0) (hy : d * b / c = y) (x1 : 0 ≤ x) (x2 : x ≤ a) (y1 : x ≤ y) (y2 : y ≤ d) :
    Calls Try.prog 9 #[.int .i64 a, .int .i64 b, .int .i64 c, .int .i64 d] w (TrueAns w) := by
  have FA := Lib.hid fa
  have FB := Lib.hid fb
  have FC := Lib.hid fc
  have FD := Lib.hid fd
  have HX := Lib.hid hx
  have HC := Lib.hid hc
  have HZ := Lib.hid hz
  have HY := Lib.hid hy
  clear fa fb fc fd hx hc hz hy
  go_enter Try.func9, Try.ntmps9
  go_wp2_with fail
  refine (live_any _).mono ?_
  rintro e w1 ⟨rfl, hb1⟩
  have HB1 := Lib.hid hb1
  clear hb1
  go_wp2_with fail
  refine (muldiv_as a b c x _ FA.out FB.out FC.out h1 h2 h3 (by have := FA.out; unfold Fit at *; omega) HX.out).mono ?_
  rintro e w2 ⟨rfl, hb2⟩
  have HB2 := Lib.hid hb2
  clear hb2
  go_wp2_with fail
  refine (muldiv_as a c c a _ FA.out FC.out FC.out h1 (by omega) h3 FA.out HC.out).mono ?_
  rintro e w3 ⟨rfl, hb3⟩
  have HB3 := Lib.hid hb3
  clear hb3
  go_wp2_with fail
  refine (muldiv_as a 0 c 0 _ FA.out (by unfold Fit; omega) FC.out h1 (by omega) h3 (by unfold Fit; omega) HZ.out).mono ?_
  rintro e w4 ⟨rfl, hb4⟩
  have HB4 := Lib.hid hb4
  clear hb4
  go_wp2_with fail
  refine (muldiv_as d b c y _ FD.out FB.out FC.out (by omega) h2 h3 (by have := FD.out; unfold Fit at *; omega) HY.out).mono ?_
  rintro e w5 ⟨rfl, hb5⟩
  have HB5 := Lib.hid hb5
  clear hb5
  go_wp2
  go_ret
  exact ⟨ret_bool (by first | rfl | (simp; done) | (simp; omega)), below3 (below3 (below3 (below3 (HB1.out) HB2.out) HB3.out) HB4.out) HB5.out⟩

theorem share_any (a b c d : Int) (w : World) (fa : Fit a) (fb : Fit b) (fc : Fit c) (fd : Fit d) : Calls Try.prog 9 #[.int .i64 a, .int .i64 b, .int .i64 c, .int .i64 d] w (TrueAns w) := by
  by_cases h1 : a < 0
  · exact share_a a b c d w h1
  have h1 : 0 ≤ a := by omega
  by_cases h2 : b < 0
  · exact share_b a b c d w h1 h2
  have h2 : 0 ≤ b := by omega
  by_cases h3 : c < 1
  · exact share_c a b c d w h1 h2 h3
  have h3 : 1 ≤ c := by omega
  by_cases h4 : d < 0
  · exact share_d a b c d w h1 h2 h3 h4
  have h4 : 0 ≤ d := by omega
  by_cases h5 : c < b
  · exact share_bc a b c d w h1 h2 h3 h4 h5
  have h5 : b ≤ c := by omega
  have k : ∀ z : Int, 0 ≤ z → 0 ≤ z * b / c ∧ z * b / c ≤ z := fun z hz => by
    refine ⟨Int.ediv_nonneg (Int.mul_nonneg hz h2) (by omega), Int.ediv_le_of_le_mul (by omega) ?_⟩
    exact Int.mul_le_mul_of_nonneg_left h5 hz
  have hc : a * c / c = a := Int.mul_ediv_cancel a (by omega)
  have hz : a * 0 / c = 0 := by simp
  by_cases h6 : d ≤ a
  · exact share_max_a a b c d _ _ w fa fb fc fd h1 h2 h3 h4 h5 (by omega) rfl hc hz rfl (k a h1).1 (k a h1).2 (Int.le_refl _) (k a h1).2
  · have hm : a * b / c ≤ d * b / c := Int.ediv_le_ediv (by omega) (Int.mul_le_mul_of_nonneg_right (by omega) h2)
    exact share_max_d a b c d _ _ w fa fb fc fd h1 h2 h3 h4 h5 (by omega) rfl hc hz rfl (k a h1).1 (k a h1).2 hm (k d h4).2

end Go.Proofs.Ytaaffpeppdinhaa

/-
  The walk of the law CalcSigns of layer 2: with the other sign a sum, a difference, a product has the other sign.
-/
import Derived.Test.YtaaffpeppdinhaaSignsB
import Derived.Test.YtaaffpeppdinhaaSignsC
namespace Go.Proofs.Ytaaffpeppdinhaa
open Go.RowKit

theorem sg_least_a (a b : Int) (w : World) (h : a = -9223372036854775808) :
    Calls Try.prog 10 #[.int .i64 a, .int .i64 b] w (TrueAns w) := by
  subst h
  go_enter Try.func10, Try.ntmps10
  go_wp2_with fail
  refine (live_any _).mono ?_
  rintro e w1 ⟨rfl, hb1⟩
  have HB1 := Lib.hid hb1
  clear hb1
  go_wp2
  go_ret
  exact ⟨ret_bool (by first | rfl | (simp; done) | (simp; omega)), HB1.out⟩

theorem sg_least_b (a b : Int) (w : World) (h3 : (a == -9223372036854775808) = false) (h : b = -9223372036854775808) :
    Calls Try.prog 10 #[.int .i64 a, .int .i64 b] w (TrueAns w) := by
  subst h
  go_enter Try.func10, Try.ntmps10
  go_wp2_with fail
  refine (live_any _).mono ?_
  rintro e w1 ⟨rfl, hb1⟩
  have HB1 := Lib.hid hb1
  clear hb1
  go_wp2
  go_ret
  exact ⟨ret_bool (by first | rfl | (simp; done) | (simp; omega)), HB1.out⟩

theorem kind3 (z : Int) : (-9223372036854775807 ≤ z ∧ z ≤ 9223372036854775807 ∧ (z == -9223372036854775808) = false ∧ (z != -9223372036854775808) = true) ∨ z = -9223372036854775808 ∨ ¬ Fit z := by
  by_cases h : Fit z
  · by_cases h2 : z = -9223372036854775808
    · exact .inr (.inl h2)
    · have h3 : (z == -9223372036854775808) = false := by simpa using h2
      have h4 : (z != -9223372036854775808) = true := by simpa using h2
      unfold Fit at h
      exact .inl ⟨by omega, by omega, h3, h4⟩
  · exact .inr (.inr h)

theorem signs_any (a b : Int) (w : World) (ha : Fit a) (hb : Fit b) : Calls Try.prog 10 #[.int .i64 a, .int .i64 b] w (TrueAns w) := by
  rcases kind3 a with ⟨a1, a2, a3, -⟩ | h | h
  rotate_left
  · exact sg_least_a a b w h
  · exact absurd ha h
  rcases kind3 b with ⟨b1, b2, b3, -⟩ | h | h
  rotate_left
  · exact sg_least_b a b w a3 h
  · exact absurd hb h
  rcases kind3 (a + b) with ⟨x1, x2, -, x4⟩ | hx | hx <;> rcases kind3 (a * b) with ⟨p1, p2, -, p4⟩ | hp | hp <;> rcases kind3 (a - b) with ⟨s1, s2, s3, -⟩ | hs | hs
  · exact sg_ok_ok_ok a b (a + b) (a * b) (a - b) w a1 a2 a3 b1 b2 b3 x1 x2 x4 rfl (by omega) p1 p2 p4 rfl (Int.neg_mul a b) s1 s2 s3 rfl (by omega)
  · exact sg_ok_ok_min a b (a + b) (a * b) w a1 a2 a3 b1 b2 b3 x1 x2 x4 rfl (by omega) p1 p2 p4 rfl (Int.neg_mul a b) hs
  · exact sg_ok_ok_no a b (a + b) (a * b) w a1 a2 a3 b1 b2 b3 x1 x2 x4 rfl (by omega) p1 p2 p4 rfl (Int.neg_mul a b) hs
  · exact sg_ok_min_ok a b (a + b) (a - b) w a1 a2 a3 b1 b2 b3 x1 x2 x4 rfl (by omega) hp s1 s2 s3 rfl (by omega)
  · exact sg_ok_min_min a b (a + b) w a1 a2 a3 b1 b2 b3 x1 x2 x4 rfl (by omega) hp hs
  · exact sg_ok_min_no a b (a + b) w a1 a2 a3 b1 b2 b3 x1 x2 x4 rfl (by omega) hp hs
  · exact sg_ok_no_ok a b (a + b) (a - b) w a1 a2 a3 b1 b2 b3 x1 x2 x4 rfl (by omega) hp s1 s2 s3 rfl (by omega)
  · exact sg_ok_no_min a b (a + b) w a1 a2 a3 b1 b2 b3 x1 x2 x4 rfl (by omega) hp hs
  · exact sg_ok_no_no a b (a + b) w a1 a2 a3 b1 b2 b3 x1 x2 x4 rfl (by omega) hp hs
  · exact sg_min_ok_ok a b (a * b) (a - b) w a1 a2 a3 b1 b2 b3 hx p1 p2 p4 rfl (Int.neg_mul a b) s1 s2 s3 rfl (by omega)
  · exact sg_min_ok_min a b (a * b) w a1 a2 a3 b1 b2 b3 hx p1 p2 p4 rfl (Int.neg_mul a b) hs
  · exact sg_min_ok_no a b (a * b) w a1 a2 a3 b1 b2 b3 hx p1 p2 p4 rfl (Int.neg_mul a b) hs
  · exact sg_min_min_ok a b (a - b) w a1 a2 a3 b1 b2 b3 hx hp s1 s2 s3 rfl (by omega)
  · exact sg_min_min_min a b w a1 a2 a3 b1 b2 b3 hx hp hs
  · exact sg_min_min_no a b w a1 a2 a3 b1 b2 b3 hx hp hs
  · exact sg_min_no_ok a b (a - b) w a1 a2 a3 b1 b2 b3 hx hp s1 s2 s3 rfl (by omega)
  · exact sg_min_no_min a b w a1 a2 a3 b1 b2 b3 hx hp hs
  · exact sg_min_no_no a b w a1 a2 a3 b1 b2 b3 hx hp hs
  · exact sg_no_ok_ok a b (a * b) (a - b) w a1 a2 a3 b1 b2 b3 hx p1 p2 p4 rfl (Int.neg_mul a b) s1 s2 s3 rfl (by omega)
  · exact sg_no_ok_min a b (a * b) w a1 a2 a3 b1 b2 b3 hx p1 p2 p4 rfl (Int.neg_mul a b) hs
  · exact sg_no_ok_no a b (a * b) w a1 a2 a3 b1 b2 b3 hx p1 p2 p4 rfl (Int.neg_mul a b) hs
  · exact sg_no_min_ok a b (a - b) w a1 a2 a3 b1 b2 b3 hx hp s1 s2 s3 rfl (by omega)
  · exact sg_no_min_min a b w a1 a2 a3 b1 b2 b3 hx hp hs
  · exact sg_no_min_no a b w a1 a2 a3 b1 b2 b3 hx hp hs
  · exact sg_no_no_ok a b (a - b) w a1 a2 a3 b1 b2 b3 hx hp s1 s2 s3 rfl (by omega)
  · exact sg_no_no_min a b w a1 a2 a3 b1 b2 b3 hx hp hs
  · exact sg_no_no_no a b w a1 a2 a3 b1 b2 b3 hx hp hs

end Go.Proofs.Ytaaffpeppdinhaa

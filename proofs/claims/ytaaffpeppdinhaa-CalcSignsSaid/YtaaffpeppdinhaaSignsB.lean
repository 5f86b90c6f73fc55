/-
  The walk of the law CalcSigns of layer 2, where the sum is the least number.
-/
import Derived.Test.YtaaffpeppdinhaaSignsA
namespace Go.Proofs.Ytaaffpeppdinhaa
open Go.RowKit

theorem sg_min_ok_ok (a b p s : Int) (w : World) (a1 : -9223372036854775807 ≤ a) (a2 : a ≤ 9223372036854775807) (a3 : (a == -9223372036854775808) = false) (b1 : -9223372036854775807 ≤ b) (b2 : b ≤ 9223372036854775807) (b3 : (b == -9223372036854775808) = false) (hx : a + b = -9223372036854775808) (p1 : -9223372036854775807 ≤ p) (p2 : p ≤ 9223372036854775807) (p4 : (p != -9223372036854775808) = true) (hp : a * b = p) (hq : -a * b = -p) (s1 : -9223372036854775807 ≤ s) (s2 : s ≤ 9223372036854775807) (s3 : (s == -9223372036854775808) = false) (hs : a - b = s) (ht : b - a = -s) :
    Calls Try.prog 10 #[.int .i64 a, .int .i64 b] w (TrueAns w) := by
  have HX := Lib.hid hx
  have HP := Lib.hid hp
  have HQ := Lib.hid hq
  have HS := Lib.hid hs
  have HT := Lib.hid ht
  clear hx hp hq hs ht
  go_enter Try.func10, Try.ntmps10
  go_wp2_with fail
  refine (live_any _).mono ?_
  rintro e w1 ⟨rfl, hb1⟩
  have HB1 := Lib.hid hb1
  clear hb1
  go_wp2_with fail
  refine (add_as a b (-9223372036854775808) _ (fit_bd a1 a2) (fit_bd b1 b2) fit_min HX.out).mono ?_
  rintro e w2 ⟨rfl, hb2⟩
  have HB2 := Lib.hid hb2
  clear hb2
  go_wp2_with fail
  refine (add_any (-a) (-b) _ (fit_neg a1 a2) (fit_neg b1 b2)).mono ?_
  rintro e w3 ⟨rfl, hb3⟩
  have HB3 := Lib.hid hb3
  clear hb3
  go_wp2_with fail
  refine (mul_as a b p _ (fit_bd a1 a2) (fit_bd b1 b2) (fit_bd p1 p2) HP.out).mono ?_
  rintro e w4 ⟨rfl, hb4⟩
  have HB4 := Lib.hid hb4
  clear hb4
  go_wp2_with fail
  refine (mul_as (-a) b (-p) _ (fit_neg a1 a2) (fit_bd b1 b2) (fit_neg p1 p2) HQ.out).mono ?_
  rintro e w5 ⟨rfl, hb5⟩
  have HB5 := Lib.hid hb5
  clear hb5
  go_wp2_with fail
  refine (sub_as a b s _ (fit_bd a1 a2) (fit_bd b1 b2) (fit_bd s1 s2) HS.out).mono ?_
  rintro e w6 ⟨rfl, hb6⟩
  have HB6 := Lib.hid hb6
  clear hb6
  go_wp2_with fail
  refine (sub_as b a (-s) _ (fit_bd b1 b2) (fit_bd a1 a2) (fit_neg s1 s2) HT.out).mono ?_
  rintro e w7 ⟨rfl, hb7⟩
  have HB7 := Lib.hid hb7
  clear hb7
  go_wp2
  go_ret
  exact ⟨ret_bool (by first | rfl | (simp; done) | (simp; omega)), below3 (below3 (below3 (below3 (below3 (below3 (HB1.out) HB2.out) HB3.out) HB4.out) HB5.out) HB6.out) HB7.out⟩

theorem sg_min_ok_min (a b p : Int) (w : World) (a1 : -9223372036854775807 ≤ a) (a2 : a ≤ 9223372036854775807) (a3 : (a == -9223372036854775808) = false) (b1 : -9223372036854775807 ≤ b) (b2 : b ≤ 9223372036854775807) (b3 : (b == -9223372036854775808) = false) (hx : a + b = -9223372036854775808) (p1 : -9223372036854775807 ≤ p) (p2 : p ≤ 9223372036854775807) (p4 : (p != -9223372036854775808) = true) (hp : a * b = p) (hq : -a * b = -p) (hs : a - b = -9223372036854775808) :
    Calls Try.prog 10 #[.int .i64 a, .int .i64 b] w (TrueAns w) := by
  have HX := Lib.hid hx
  have HP := Lib.hid hp
  have HQ := Lib.hid hq
  have HS := Lib.hid hs
  clear hx hp hq hs
  go_enter Try.func10, Try.ntmps10
  go_wp2_with fail
  refine (live_any _).mono ?_
  rintro e w1 ⟨rfl, hb1⟩
  have HB1 := Lib.hid hb1
  clear hb1
  go_wp2_with fail
  refine (add_as a b (-9223372036854775808) _ (fit_bd a1 a2) (fit_bd b1 b2) fit_min HX.out).mono ?_
  rintro e w2 ⟨rfl, hb2⟩
  have HB2 := Lib.hid hb2
  clear hb2
  go_wp2_with fail
  refine (add_any (-a) (-b) _ (fit_neg a1 a2) (fit_neg b1 b2)).mono ?_
  rintro e w3 ⟨rfl, hb3⟩
  have HB3 := Lib.hid hb3
  clear hb3
  go_wp2_with fail
  refine (mul_as a b p _ (fit_bd a1 a2) (fit_bd b1 b2) (fit_bd p1 p2) HP.out).mono ?_
  rintro e w4 ⟨rfl, hb4⟩
  have HB4 := Lib.hid hb4
  clear hb4
  go_wp2_with fail
  refine (mul_as (-a) b (-p) _ (fit_neg a1 a2) (fit_bd b1 b2) (fit_neg p1 p2) HQ.out).mono ?_
  rintro e w5 ⟨rfl, hb5⟩
  have HB5 := Lib.hid hb5
  clear hb5
  go_wp2_with fail
  refine (sub_as a b (-9223372036854775808) _ (fit_bd a1 a2) (fit_bd b1 b2) fit_min HS.out).mono ?_
  rintro e w6 ⟨rfl, hb6⟩
  have HB6 := Lib.hid hb6
  clear hb6
  go_wp2_with fail
  refine (sub_any b a _ (fit_bd b1 b2) (fit_bd a1 a2)).mono ?_
  rintro e w7 ⟨rfl, hb7⟩
  have HB7 := Lib.hid hb7
  clear hb7
  go_wp2
  go_ret
  exact ⟨ret_bool (by first | rfl | (simp; done) | (simp; omega)), below3 (below3 (below3 (below3 (below3 (below3 (HB1.out) HB2.out) HB3.out) HB4.out) HB5.out) HB6.out) HB7.out⟩

theorem sg_min_ok_no (a b p : Int) (w : World) (a1 : -9223372036854775807 ≤ a) (a2 : a ≤ 9223372036854775807) (a3 : (a == -9223372036854775808) = false) (b1 : -9223372036854775807 ≤ b) (b2 : b ≤ 9223372036854775807) (b3 : (b == -9223372036854775808) = false) (hx : a + b = -9223372036854775808) (p1 : -9223372036854775807 ≤ p) (p2 : p ≤ 9223372036854775807) (p4 : (p != -9223372036854775808) = true) (hp : a * b = p) (hq : -a * b = -p) (hs : ¬ Fit (a - b)) :
    Calls Try.prog 10 #[.int .i64 a, .int .i64 b] w (TrueAns w) := by
  have HX := Lib.hid hx
  have HP := Lib.hid hp
  have HQ := Lib.hid hq
  have HS := Lib.hid hs
  clear hx hp hq hs
  go_enter Try.func10, Try.ntmps10
  go_wp2_with fail
  refine (live_any _).mono ?_
  rintro e w1 ⟨rfl, hb1⟩
  have HB1 := Lib.hid hb1
  clear hb1
  go_wp2_with fail
  refine (add_as a b (-9223372036854775808) _ (fit_bd a1 a2) (fit_bd b1 b2) fit_min HX.out).mono ?_
  rintro e w2 ⟨rfl, hb2⟩
  have HB2 := Lib.hid hb2
  clear hb2
  go_wp2_with fail
  refine (add_any (-a) (-b) _ (fit_neg a1 a2) (fit_neg b1 b2)).mono ?_
  rintro e w3 ⟨rfl, hb3⟩
  have HB3 := Lib.hid hb3
  clear hb3
  go_wp2_with fail
  refine (mul_as a b p _ (fit_bd a1 a2) (fit_bd b1 b2) (fit_bd p1 p2) HP.out).mono ?_
  rintro e w4 ⟨rfl, hb4⟩
  have HB4 := Lib.hid hb4
  clear hb4
  go_wp2_with fail
  refine (mul_as (-a) b (-p) _ (fit_neg a1 a2) (fit_bd b1 b2) (fit_neg p1 p2) HQ.out).mono ?_
  rintro e w5 ⟨rfl, hb5⟩
  have HB5 := Lib.hid hb5
  clear hb5
  go_wp2_with fail
  refine (sub_no a b _ (fit_bd a1 a2) (fit_bd b1 b2) HS.out).mono ?_
  rintro e w6 ⟨rfl, hb6⟩
  have HB6 := Lib.hid hb6
  clear hb6
  go_wp2_with fail
  refine (sub_any b a _ (fit_bd b1 b2) (fit_bd a1 a2)).mono ?_
  rintro e w7 ⟨rfl, hb7⟩
  have HB7 := Lib.hid hb7
  clear hb7
  go_wp2
  go_ret
  exact ⟨ret_bool (by first | rfl | (simp; done) | (simp; omega)), below3 (below3 (below3 (below3 (below3 (below3 (HB1.out) HB2.out) HB3.out) HB4.out) HB5.out) HB6.out) HB7.out⟩

theorem sg_min_min_ok (a b s : Int) (w : World) (a1 : -9223372036854775807 ≤ a) (a2 : a ≤ 9223372036854775807) (a3 : (a == -9223372036854775808) = false) (b1 : -9223372036854775807 ≤ b) (b2 : b ≤ 9223372036854775807) (b3 : (b == -9223372036854775808) = false) (hx : a + b = -9223372036854775808) (hp : a * b = -9223372036854775808) (s1 : -9223372036854775807 ≤ s) (s2 : s ≤ 9223372036854775807) (s3 : (s == -9223372036854775808) = false) (hs : a - b = s) (ht : b - a = -s) :
    Calls Try.prog 10 #[.int .i64 a, .int .i64 b] w (TrueAns w) := by
  have HX := Lib.hid hx
  have HP := Lib.hid hp
  have HS := Lib.hid hs
  have HT := Lib.hid ht
  clear hx hp hs ht
  go_enter Try.func10, Try.ntmps10
  go_wp2_with fail
  refine (live_any _).mono ?_
  rintro e w1 ⟨rfl, hb1⟩
  have HB1 := Lib.hid hb1
  clear hb1
  go_wp2_with fail
  refine (add_as a b (-9223372036854775808) _ (fit_bd a1 a2) (fit_bd b1 b2) fit_min HX.out).mono ?_
  rintro e w2 ⟨rfl, hb2⟩
  have HB2 := Lib.hid hb2
  clear hb2
  go_wp2_with fail
  refine (add_any (-a) (-b) _ (fit_neg a1 a2) (fit_neg b1 b2)).mono ?_
  rintro e w3 ⟨rfl, hb3⟩
  have HB3 := Lib.hid hb3
  clear hb3
  go_wp2_with fail
  refine (mul_as a b (-9223372036854775808) _ (fit_bd a1 a2) (fit_bd b1 b2) fit_min HP.out).mono ?_
  rintro e w4 ⟨rfl, hb4⟩
  have HB4 := Lib.hid hb4
  clear hb4
  go_wp2_with fail
  refine (mul_any (-a) b _ (fit_neg a1 a2) (fit_bd b1 b2)).mono ?_
  rintro e w5 ⟨rfl, hb5⟩
  have HB5 := Lib.hid hb5
  clear hb5
  go_wp2_with fail
  refine (sub_as a b s _ (fit_bd a1 a2) (fit_bd b1 b2) (fit_bd s1 s2) HS.out).mono ?_
  rintro e w6 ⟨rfl, hb6⟩
  have HB6 := Lib.hid hb6
  clear hb6
  go_wp2_with fail
  refine (sub_as b a (-s) _ (fit_bd b1 b2) (fit_bd a1 a2) (fit_neg s1 s2) HT.out).mono ?_
  rintro e w7 ⟨rfl, hb7⟩
  have HB7 := Lib.hid hb7
  clear hb7
  go_wp2
  go_ret
  exact ⟨ret_bool (by first | rfl | (simp; done) | (simp; omega)), below3 (below3 (below3 (below3 (below3 (below3 (HB1.out) HB2.out) HB3.out) HB4.out) HB5.out) HB6.out) HB7.out⟩

theorem sg_min_min_min (a b : Int) (w : World) (a1 : -9223372036854775807 ≤ a) (a2 : a ≤ 9223372036854775807) (a3 : (a == -9223372036854775808) = false) (b1 : -9223372036854775807 ≤ b) (b2 : b ≤ 9223372036854775807) (b3 : (b == -9223372036854775808) = false) (hx : a + b = -9223372036854775808) (hp : a * b = -9223372036854775808) (hs : a - b = -9223372036854775808) :
    Calls Try.prog 10 #[.int .i64 a, .int .i64 b] w (TrueAns w) := by
  have HX := Lib.hid hx
  have HP := Lib.hid hp
  have HS := Lib.hid hs
  clear hx hp hs
  go_enter Try.func10, Try.ntmps10
  go_wp2_with fail
  refine (live_any _).mono ?_
  rintro e w1 ⟨rfl, hb1⟩
  have HB1 := Lib.hid hb1
  clear hb1
  go_wp2_with fail
  refine (add_as a b (-9223372036854775808) _ (fit_bd a1 a2) (fit_bd b1 b2) fit_min HX.out).mono ?_
  rintro e w2 ⟨rfl, hb2⟩
  have HB2 := Lib.hid hb2
  clear hb2
  go_wp2_with fail
  refine (add_any (-a) (-b) _ (fit_neg a1 a2) (fit_neg b1 b2)).mono ?_
  rintro e w3 ⟨rfl, hb3⟩
  have HB3 := Lib.hid hb3
  clear hb3
  go_wp2_with fail
  refine (mul_as a b (-9223372036854775808) _ (fit_bd a1 a2) (fit_bd b1 b2) fit_min HP.out).mono ?_
  rintro e w4 ⟨rfl, hb4⟩
  have HB4 := Lib.hid hb4
  clear hb4
  go_wp2_with fail
  refine (mul_any (-a) b _ (fit_neg a1 a2) (fit_bd b1 b2)).mono ?_
  rintro e w5 ⟨rfl, hb5⟩
  have HB5 := Lib.hid hb5
  clear hb5
  go_wp2_with fail
  refine (sub_as a b (-9223372036854775808) _ (fit_bd a1 a2) (fit_bd b1 b2) fit_min HS.out).mono ?_
  rintro e w6 ⟨rfl, hb6⟩
  have HB6 := Lib.hid hb6
  clear hb6
  go_wp2_with fail
  refine (sub_any b a _ (fit_bd b1 b2) (fit_bd a1 a2)).mono ?_
  rintro e w7 ⟨rfl, hb7⟩
  have HB7 := Lib.hid hb7
  clear hb7
  go_wp2
  go_ret
  exact ⟨ret_bool (by first | rfl | (simp; done) | (simp; omega)), below3 (below3 (below3 (below3 (below3 (below3 (HB1.out) HB2.out) HB3.out) HB4.out) HB5.out) HB6.out) HB7.out⟩

theorem sg_min_min_no (a b : Int) (w : World) (a1 : -9223372036854775807 ≤ a) (a2 : a ≤ 9223372036854775807) (a3 : (a == -9223372036854775808) = false) (b1 : -9223372036854775807 ≤ b) (b2 : b ≤ 9223372036854775807) (b3 : (b == -9223372036854775808) = false) (hx : a + b = -9223372036854775808) (hp : a * b = -9223372036854775808) (hs : ¬ Fit (a - b)) :
    Calls Try.prog 10 #[.int .i64 a, .int .i64 b] w (TrueAns w) := by
  have HX := Lib.hid hx
  have HP := Lib.hid hp
  have HS := Lib.hid hs
  clear hx hp hs
  go_enter Try.func10, Try.ntmps10
  go_wp2_with fail
  refine (live_any _).mono ?_
  rintro e w1 ⟨rfl, hb1⟩
  have HB1 := Lib.hid hb1
  clear hb1
  go_wp2_with fail
  refine (add_as a b (-9223372036854775808) _ (fit_bd a1 a2) (fit_bd b1 b2) fit_min HX.out).mono ?_
  rintro e w2 ⟨rfl, hb2⟩
  have HB2 := Lib.hid hb2
  clear hb2
  go_wp2_with fail
  refine (add_any (-a) (-b) _ (fit_neg a1 a2) (fit_neg b1 b2)).mono ?_
  rintro e w3 ⟨rfl, hb3⟩
  have HB3 := Lib.hid hb3
  clear hb3
  go_wp2_with fail
  refine (mul_as a b (-9223372036854775808) _ (fit_bd a1 a2) (fit_bd b1 b2) fit_min HP.out).mono ?_
  rintro e w4 ⟨rfl, hb4⟩
  have HB4 := Lib.hid hb4
  clear hb4
  go_wp2_with fail
  refine (mul_any (-a) b _ (fit_neg a1 a2) (fit_bd b1 b2)).mono ?_
  rintro e w5 ⟨rfl, hb5⟩
  have HB5 := Lib.hid hb5
  clear hb5
  go_wp2_with fail
  refine (sub_no a b _ (fit_bd a1 a2) (fit_bd b1 b2) HS.out).mono ?_
  rintro e w6 ⟨rfl, hb6⟩
  have HB6 := Lib.hid hb6
  clear hb6
  go_wp2_with fail
  refine (sub_any b a _ (fit_bd b1 b2) (fit_bd a1 a2)).mono ?_
  rintro e w7 ⟨rfl, hb7⟩
  have HB7 := Lib.hid hb7
  clear hb7
  go_wp2
  go_ret
  exact ⟨ret_bool (by first | rfl | (simp; done) | (simp; omega)), below3 (below3 (below3 (below3 (below3 (below3 (HB1.out) HB2.out) HB3.out) HB4.out) HB5.out) HB6.out) HB7.out⟩

theorem sg_min_no_ok (a b s : Int) (w : World) (a1 : -9223372036854775807 ≤ a) (a2 : a ≤ 9223372036854775807) (a3 : (a == -9223372036854775808) = false) (b1 : -9223372036854775807 ≤ b) (b2 : b ≤ 9223372036854775807) (b3 : (b == -9223372036854775808) = false) (hx : a + b = -9223372036854775808) (hp : ¬ Fit (a * b)) (s1 : -9223372036854775807 ≤ s) (s2 : s ≤ 9223372036854775807) (s3 : (s == -9223372036854775808) = false) (hs : a - b = s) (ht : b - a = -s) :
    Calls Try.prog 10 #[.int .i64 a, .int .i64 b] w (TrueAns w) := by
  have HX := Lib.hid hx
  have HP := Lib.hid hp
  have HS := Lib.hid hs
  have HT := Lib.hid ht
  clear hx hp hs ht
  go_enter Try.func10, Try.ntmps10
  go_wp2_with fail
  refine (live_any _).mono ?_
  rintro e w1 ⟨rfl, hb1⟩
  have HB1 := Lib.hid hb1
  clear hb1
  go_wp2_with fail
  refine (add_as a b (-9223372036854775808) _ (fit_bd a1 a2) (fit_bd b1 b2) fit_min HX.out).mono ?_
  rintro e w2 ⟨rfl, hb2⟩
  have HB2 := Lib.hid hb2
  clear hb2
  go_wp2_with fail
  refine (add_any (-a) (-b) _ (fit_neg a1 a2) (fit_neg b1 b2)).mono ?_
  rintro e w3 ⟨rfl, hb3⟩
  have HB3 := Lib.hid hb3
  clear hb3
  go_wp2_with fail
  refine (mul_no a b _ (fit_bd a1 a2) (fit_bd b1 b2) HP.out).mono ?_
  rintro e w4 ⟨rfl, hb4⟩
  have HB4 := Lib.hid hb4
  clear hb4
  go_wp2_with fail
  refine (mul_any (-a) b _ (fit_neg a1 a2) (fit_bd b1 b2)).mono ?_
  rintro e w5 ⟨rfl, hb5⟩
  have HB5 := Lib.hid hb5
  clear hb5
  go_wp2_with fail
  refine (sub_as a b s _ (fit_bd a1 a2) (fit_bd b1 b2) (fit_bd s1 s2) HS.out).mono ?_
  rintro e w6 ⟨rfl, hb6⟩
  have HB6 := Lib.hid hb6
  clear hb6
  go_wp2_with fail
  refine (sub_as b a (-s) _ (fit_bd b1 b2) (fit_bd a1 a2) (fit_neg s1 s2) HT.out).mono ?_
  rintro e w7 ⟨rfl, hb7⟩
  have HB7 := Lib.hid hb7
  clear hb7
  go_wp2
  go_ret
  exact ⟨ret_bool (by first | rfl | (simp; done) | (simp; omega)), below3 (below3 (below3 (below3 (below3 (below3 (HB1.out) HB2.out) HB3.out) HB4.out) HB5.out) HB6.out) HB7.out⟩

theorem sg_min_no_min (a b : Int) (w : World) (a1 : -9223372036854775807 ≤ a) (a2 : a ≤ 9223372036854775807) (a3 : (a == -9223372036854775808) = false) (b1 : -9223372036854775807 ≤ b) (b2 : b ≤ 9223372036854775807) (b3 : (b == -9223372036854775808) = false) (hx : a + b = -9223372036854775808) (hp : ¬ Fit (a * b)) (hs : a - b = -9223372036854775808) :
    Calls Try.prog 10 #[.int .i64 a, .int .i64 b] w (TrueAns w) := by
  have HX := Lib.hid hx
  have HP := Lib.hid hp
  have HS := Lib.hid hs
  clear hx hp hs
  go_enter Try.func10, Try.ntmps10
  go_wp2_with fail
  refine (live_any _).mono ?_
  rintro e w1 ⟨rfl, hb1⟩
  have HB1 := Lib.hid hb1
  clear hb1
  go_wp2_with fail
  refine (add_as a b (-9223372036854775808) _ (fit_bd a1 a2) (fit_bd b1 b2) fit_min HX.out).mono ?_
  rintro e w2 ⟨rfl, hb2⟩
  have HB2 := Lib.hid hb2
  clear hb2
  go_wp2_with fail
  refine (add_any (-a) (-b) _ (fit_neg a1 a2) (fit_neg b1 b2)).mono ?_
  rintro e w3 ⟨rfl, hb3⟩
  have HB3 := Lib.hid hb3
  clear hb3
  go_wp2_with fail
  refine (mul_no a b _ (fit_bd a1 a2) (fit_bd b1 b2) HP.out).mono ?_
  rintro e w4 ⟨rfl, hb4⟩
  have HB4 := Lib.hid hb4
  clear hb4
  go_wp2_with fail
  refine (mul_any (-a) b _ (fit_neg a1 a2) (fit_bd b1 b2)).mono ?_
  rintro e w5 ⟨rfl, hb5⟩
  have HB5 := Lib.hid hb5
  clear hb5
  go_wp2_with fail
  refine (sub_as a b (-9223372036854775808) _ (fit_bd a1 a2) (fit_bd b1 b2) fit_min HS.out).mono ?_
  rintro e w6 ⟨rfl, hb6⟩
  have HB6 := Lib.hid hb6
  clear hb6
  go_wp2_with fail
  refine (sub_any b a _ (fit_bd b1 b2) (fit_bd a1 a2)).mono ?_
  rintro e w7 ⟨rfl, hb7⟩
  have HB7 := Lib.hid hb7
  clear hb7
  go_wp2
  go_ret
  exact ⟨ret_bool (by first | rfl | (simp; done) | (simp; omega)), below3 (below3 (below3 (below3 (below3 (below3 (HB1.out) HB2.out) HB3.out) HB4.out) HB5.out) HB6.out) HB7.out⟩

theorem sg_min_no_no (a b : Int) (w : World) (a1 : -9223372036854775807 ≤ a) (a2 : a ≤ 9223372036854775807) (a3 : (a == -9223372036854775808) = false) (b1 : -9223372036854775807 ≤ b) (b2 : b ≤ 9223372036854775807) (b3 : (b == -9223372036854775808) = false) (hx : a + b = -9223372036854775808) (hp : ¬ Fit (a * b)) (hs : ¬ Fit (a - b)) :
    Calls Try.prog 10 #[.int .i64 a, .int .i64 b] w (TrueAns w) := by
  have HX := Lib.hid hx
  have HP := Lib.hid hp
  have HS := Lib.hid hs
  clear hx hp hs
  go_enter Try.func10, Try.ntmps10
  go_wp2_with fail
  refine (live_any _).mono ?_
  rintro e w1 ⟨rfl, hb1⟩
  have HB1 := Lib.hid hb1
  clear hb1
  go_wp2_with fail
  refine (add_as a b (-9223372036854775808) _ (fit_bd a1 a2) (fit_bd b1 b2) fit_min HX.out).mono ?_
  rintro e w2 ⟨rfl, hb2⟩
  have HB2 := Lib.hid hb2
  clear hb2
  go_wp2_with fail
  refine (add_any (-a) (-b) _ (fit_neg a1 a2) (fit_neg b1 b2)).mono ?_
  rintro e w3 ⟨rfl, hb3⟩
  have HB3 := Lib.hid hb3
  clear hb3
  go_wp2_with fail
  refine (mul_no a b _ (fit_bd a1 a2) (fit_bd b1 b2) HP.out).mono ?_
  rintro e w4 ⟨rfl, hb4⟩
  have HB4 := Lib.hid hb4
  clear hb4
  go_wp2_with fail
  refine (mul_any (-a) b _ (fit_neg a1 a2) (fit_bd b1 b2)).mono ?_
  rintro e w5 ⟨rfl, hb5⟩
  have HB5 := Lib.hid hb5
  clear hb5
  go_wp2_with fail
  refine (sub_no a b _ (fit_bd a1 a2) (fit_bd b1 b2) HS.out).mono ?_
  rintro e w6 ⟨rfl, hb6⟩
  have HB6 := Lib.hid hb6
  clear hb6
  go_wp2_with fail
  refine (sub_any b a _ (fit_bd b1 b2) (fit_bd a1 a2)).mono ?_
  rintro e w7 ⟨rfl, hb7⟩
  have HB7 := Lib.hid hb7
  clear hb7
  go_wp2
  go_ret
  exact ⟨ret_bool (by first | rfl | (simp; done) | (simp; omega)), below3 (below3 (below3 (below3 (below3 (below3 (HB1.out) HB2.out) HB3.out) HB4.out) HB5.out) HB6.out) HB7.out⟩

end Go.Proofs.Ytaaffpeppdinhaa

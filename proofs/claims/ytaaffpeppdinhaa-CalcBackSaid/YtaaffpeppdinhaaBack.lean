/-
  The walk of the law CalcBack of layer 2: what was added is taken away.
-/
import Derived.Test.YtaaffpeppdinhaaLive
namespace Go.Proofs.Ytaaffpeppdinhaa
open Go.RowKit

theorem back_ok_ok_ok (a b : Int) (w : World) (ha : Fit a) (hb : Fit b) (hs : Fit (a + b)) (hd : Fit (a - b)) (hm : Fit (a * b)) :
    Calls Try.prog 5 #[.int .i64 a, .int .i64 b] w (TrueAns w) := by
  have HA := Lib.hid ha
  have HB := Lib.hid hb
  have HS := Lib.hid hs
  have HD := Lib.hid hd
  have HM := Lib.hid hm
  clear ha hb hs hd hm
  go_enter Try.func5, Try.ntmps5
  go_wp2_with fail
  refine (live_any _).mono ?_
  rintro e w1 ⟨rfl, hb1⟩
  have HB1 := Lib.hid hb1
  clear hb1
  go_wp2_with fail
  refine (add_ok a b _ HA.out HB.out HS.out).mono ?_
  rintro e w2 ⟨rfl, hb2⟩
  have HB2 := Lib.hid hb2
  clear hb2
  go_wp2_with fail
  refine (add_as b a (a + b) _ HB.out HA.out HS.out (Int.add_comm b a)).mono ?_
  rintro e w3 ⟨rfl, hb3⟩
  have HB3 := Lib.hid hb3
  clear hb3
  go_wp2_with fail
  refine (mul_ok a b _ HA.out HB.out HM.out).mono ?_
  rintro e w4 ⟨rfl, hb4⟩
  have HB4 := Lib.hid hb4
  clear hb4
  go_wp2_with fail
  refine (mul_as b a (a * b) _ HB.out HA.out HM.out (Int.mul_comm b a)).mono ?_
  rintro e w5 ⟨rfl, hb5⟩
  have HB5 := Lib.hid hb5
  clear hb5
  go_wp2_with fail
  refine (sub_as (a + b) b a _ HS.out HB.out HA.out (by omega)).mono ?_
  rintro e w6 ⟨rfl, hb6⟩
  have HB6 := Lib.hid hb6
  clear hb6
  go_wp2_with fail
  refine (sub_ok a b _ HA.out HB.out HD.out).mono ?_
  rintro e w7 ⟨rfl, hb7⟩
  have HB7 := Lib.hid hb7
  clear hb7
  go_wp2_with fail
  refine (add_as (a - b) b a _ HD.out HB.out HA.out (by omega)).mono ?_
  rintro e w8 ⟨rfl, hb8⟩
  have HB8 := Lib.hid hb8
  clear hb8
  go_wp2
  go_ret
  exact ⟨ret_bool (by first | rfl | (simp; done) | (simp; omega)), below3 (below3 (below3 (below3 (below3 (below3 (below3 (HB1.out) HB2.out) HB3.out) HB4.out) HB5.out) HB6.out) HB7.out) HB8.out⟩

theorem back_ok_ok_no (a b : Int) (w : World) (ha : Fit a) (hb : Fit b) (hs : Fit (a + b)) (hd : Fit (a - b)) (hm : ¬ Fit (a * b)) :
    Calls Try.prog 5 #[.int .i64 a, .int .i64 b] w (TrueAns w) := by
  have HA := Lib.hid ha
  have HB := Lib.hid hb
  have HS := Lib.hid hs
  have HD := Lib.hid hd
  have HM := Lib.hid hm
  clear ha hb hs hd hm
  go_enter Try.func5, Try.ntmps5
  go_wp2_with fail
  refine (live_any _).mono ?_
  rintro e w1 ⟨rfl, hb1⟩
  have HB1 := Lib.hid hb1
  clear hb1
  go_wp2_with fail
  refine (add_ok a b _ HA.out HB.out HS.out).mono ?_
  rintro e w2 ⟨rfl, hb2⟩
  have HB2 := Lib.hid hb2
  clear hb2
  go_wp2_with fail
  refine (add_as b a (a + b) _ HB.out HA.out HS.out (Int.add_comm b a)).mono ?_
  rintro e w3 ⟨rfl, hb3⟩
  have HB3 := Lib.hid hb3
  clear hb3
  go_wp2_with fail
  refine (mul_no a b _ HA.out HB.out HM.out).mono ?_
  rintro e w4 ⟨rfl, hb4⟩
  have HB4 := Lib.hid hb4
  clear hb4
  go_wp2_with fail
  refine (mul_no b a _ HB.out HA.out (fun h => HM.out (Int.mul_comm b a ▸ h))).mono ?_
  rintro e w5 ⟨rfl, hb5⟩
  have HB5 := Lib.hid hb5
  clear hb5
  go_wp2_with fail
  refine (sub_as (a + b) b a _ HS.out HB.out HA.out (by omega)).mono ?_
  rintro e w6 ⟨rfl, hb6⟩
  have HB6 := Lib.hid hb6
  clear hb6
  go_wp2_with fail
  refine (sub_ok a b _ HA.out HB.out HD.out).mono ?_
  rintro e w7 ⟨rfl, hb7⟩
  have HB7 := Lib.hid hb7
  clear hb7
  go_wp2_with fail
  refine (add_as (a - b) b a _ HD.out HB.out HA.out (by omega)).mono ?_
  rintro e w8 ⟨rfl, hb8⟩
  have HB8 := Lib.hid hb8
  clear hb8
  go_wp2
  go_ret
  exact ⟨ret_bool (by first | rfl | (simp; done) | (simp; omega)), below3 (below3 (below3 (below3 (below3 (below3 (below3 (HB1.out) HB2.out) HB3.out) HB4.out) HB5.out) HB6.out) HB7.out) HB8.out⟩

theorem back_ok_nl_ok (a b : Int) (w : World) (ha : Fit a) (hb : Fit b) (hs : Fit (a + b)) (hd : ¬ Fit (a - b)) (d1 : a < 0) (d2 : 0 < b) (hm : Fit (a * b)) :
    Calls Try.prog 5 #[.int .i64 a, .int .i64 b] w (TrueAns w) := by
  have HA := Lib.hid ha
  have HB := Lib.hid hb
  have HS := Lib.hid hs
  have HD := Lib.hid hd
  have HM := Lib.hid hm
  clear ha hb hs hd hm
  go_enter Try.func5, Try.ntmps5
  go_wp2_with fail
  refine (live_any _).mono ?_
  rintro e w1 ⟨rfl, hb1⟩
  have HB1 := Lib.hid hb1
  clear hb1
  go_wp2_with fail
  refine (add_ok a b _ HA.out HB.out HS.out).mono ?_
  rintro e w2 ⟨rfl, hb2⟩
  have HB2 := Lib.hid hb2
  clear hb2
  go_wp2_with fail
  refine (add_as b a (a + b) _ HB.out HA.out HS.out (Int.add_comm b a)).mono ?_
  rintro e w3 ⟨rfl, hb3⟩
  have HB3 := Lib.hid hb3
  clear hb3
  go_wp2_with fail
  refine (mul_ok a b _ HA.out HB.out HM.out).mono ?_
  rintro e w4 ⟨rfl, hb4⟩
  have HB4 := Lib.hid hb4
  clear hb4
  go_wp2_with fail
  refine (mul_as b a (a * b) _ HB.out HA.out HM.out (Int.mul_comm b a)).mono ?_
  rintro e w5 ⟨rfl, hb5⟩
  have HB5 := Lib.hid hb5
  clear hb5
  go_wp2_with fail
  refine (sub_as (a + b) b a _ HS.out HB.out HA.out (by omega)).mono ?_
  rintro e w6 ⟨rfl, hb6⟩
  have HB6 := Lib.hid hb6
  clear hb6
  go_wp2_with fail
  refine (sub_no a b _ HA.out HB.out HD.out).mono ?_
  rintro e w7 ⟨rfl, hb7⟩
  have HB7 := Lib.hid hb7
  clear hb7
  go_wp2
  go_ret
  exact ⟨ret_bool (by first | rfl | (simp; done) | (simp; omega)), below3 (below3 (below3 (below3 (below3 (below3 (HB1.out) HB2.out) HB3.out) HB4.out) HB5.out) HB6.out) HB7.out⟩

theorem back_ok_nl_no (a b : Int) (w : World) (ha : Fit a) (hb : Fit b) (hs : Fit (a + b)) (hd : ¬ Fit (a - b)) (d1 : a < 0) (d2 : 0 < b) (hm : ¬ Fit (a * b)) :
    Calls Try.prog 5 #[.int .i64 a, .int .i64 b] w (TrueAns w) := by
  have HA := Lib.hid ha
  have HB := Lib.hid hb
  have HS := Lib.hid hs
  have HD := Lib.hid hd
  have HM := Lib.hid hm
  clear ha hb hs hd hm
  go_enter Try.func5, Try.ntmps5
  go_wp2_with fail
  refine (live_any _).mono ?_
  rintro e w1 ⟨rfl, hb1⟩
  have HB1 := Lib.hid hb1
  clear hb1
  go_wp2_with fail
  refine (add_ok a b _ HA.out HB.out HS.out).mono ?_
  rintro e w2 ⟨rfl, hb2⟩
  have HB2 := Lib.hid hb2
  clear hb2
  go_wp2_with fail
  refine (add_as b a (a + b) _ HB.out HA.out HS.out (Int.add_comm b a)).mono ?_
  rintro e w3 ⟨rfl, hb3⟩
  have HB3 := Lib.hid hb3
  clear hb3
  go_wp2_with fail
  refine (mul_no a b _ HA.out HB.out HM.out).mono ?_
  rintro e w4 ⟨rfl, hb4⟩
  have HB4 := Lib.hid hb4
  clear hb4
  go_wp2_with fail
  refine (mul_no b a _ HB.out HA.out (fun h => HM.out (Int.mul_comm b a ▸ h))).mono ?_
  rintro e w5 ⟨rfl, hb5⟩
  have HB5 := Lib.hid hb5
  clear hb5
  go_wp2_with fail
  refine (sub_as (a + b) b a _ HS.out HB.out HA.out (by omega)).mono ?_
  rintro e w6 ⟨rfl, hb6⟩
  have HB6 := Lib.hid hb6
  clear hb6
  go_wp2_with fail
  refine (sub_no a b _ HA.out HB.out HD.out).mono ?_
  rintro e w7 ⟨rfl, hb7⟩
  have HB7 := Lib.hid hb7
  clear hb7
  go_wp2
  go_ret
  exact ⟨ret_bool (by first | rfl | (simp; done) | (simp; omega)), below3 (below3 (below3 (below3 (below3 (below3 (HB1.out) HB2.out) HB3.out) HB4.out) HB5.out) HB6.out) HB7.out⟩

theorem back_ok_ng_ok (a b : Int) (w : World) (ha : Fit a) (hb : Fit b) (hs : Fit (a + b)) (hd : ¬ Fit (a - b)) (d1 : 0 ≤ a) (d2 : b < 0) (hm : Fit (a * b)) :
    Calls Try.prog 5 #[.int .i64 a, .int .i64 b] w (TrueAns w) := by
  have HA := Lib.hid ha
  have HB := Lib.hid hb
  have HS := Lib.hid hs
  have HD := Lib.hid hd
  have HM := Lib.hid hm
  clear ha hb hs hd hm
  go_enter Try.func5, Try.ntmps5
  go_wp2_with fail
  refine (live_any _).mono ?_
  rintro e w1 ⟨rfl, hb1⟩
  have HB1 := Lib.hid hb1
  clear hb1
  go_wp2_with fail
  refine (add_ok a b _ HA.out HB.out HS.out).mono ?_
  rintro e w2 ⟨rfl, hb2⟩
  have HB2 := Lib.hid hb2
  clear hb2
  go_wp2_with fail
  refine (add_as b a (a + b) _ HB.out HA.out HS.out (Int.add_comm b a)).mono ?_
  rintro e w3 ⟨rfl, hb3⟩
  have HB3 := Lib.hid hb3
  clear hb3
  go_wp2_with fail
  refine (mul_ok a b _ HA.out HB.out HM.out).mono ?_
  rintro e w4 ⟨rfl, hb4⟩
  have HB4 := Lib.hid hb4
  clear hb4
  go_wp2_with fail
  refine (mul_as b a (a * b) _ HB.out HA.out HM.out (Int.mul_comm b a)).mono ?_
  rintro e w5 ⟨rfl, hb5⟩
  have HB5 := Lib.hid hb5
  clear hb5
  go_wp2_with fail
  refine (sub_as (a + b) b a _ HS.out HB.out HA.out (by omega)).mono ?_
  rintro e w6 ⟨rfl, hb6⟩
  have HB6 := Lib.hid hb6
  clear hb6
  go_wp2_with fail
  refine (sub_no a b _ HA.out HB.out HD.out).mono ?_
  rintro e w7 ⟨rfl, hb7⟩
  have HB7 := Lib.hid hb7
  clear hb7
  go_wp2
  go_ret
  exact ⟨ret_bool (by first | rfl | (simp; done) | (simp; omega)), below3 (below3 (below3 (below3 (below3 (below3 (HB1.out) HB2.out) HB3.out) HB4.out) HB5.out) HB6.out) HB7.out⟩

theorem back_ok_ng_no (a b : Int) (w : World) (ha : Fit a) (hb : Fit b) (hs : Fit (a + b)) (hd : ¬ Fit (a - b)) (d1 : 0 ≤ a) (d2 : b < 0) (hm : ¬ Fit (a * b)) :
    Calls Try.prog 5 #[.int .i64 a, .int .i64 b] w (TrueAns w) := by
  have HA := Lib.hid ha
  have HB := Lib.hid hb
  have HS := Lib.hid hs
  have HD := Lib.hid hd
  have HM := Lib.hid hm
  clear ha hb hs hd hm
  go_enter Try.func5, Try.ntmps5
  go_wp2_with fail
  refine (live_any _).mono ?_
  rintro e w1 ⟨rfl, hb1⟩
  have HB1 := Lib.hid hb1
  clear hb1
  go_wp2_with fail
  refine (add_ok a b _ HA.out HB.out HS.out).mono ?_
  rintro e w2 ⟨rfl, hb2⟩
  have HB2 := Lib.hid hb2
  clear hb2
  go_wp2_with fail
  refine (add_as b a (a + b) _ HB.out HA.out HS.out (Int.add_comm b a)).mono ?_
  rintro e w3 ⟨rfl, hb3⟩
  have HB3 := Lib.hid hb3
  clear hb3
  go_wp2_with fail
  refine (mul_no a b _ HA.out HB.out HM.out).mono ?_
  rintro e w4 ⟨rfl, hb4⟩
  have HB4 := Lib.hid hb4
  clear hb4
  go_wp2_with fail
  refine (mul_no b a _ HB.out HA.out (fun h => HM.out (Int.mul_comm b a ▸ h))).mono ?_
  rintro e w5 ⟨rfl, hb5⟩
  have HB5 := Lib.hid hb5
  clear hb5
  go_wp2_with fail
  refine (sub_as (a + b) b a _ HS.out HB.out HA.out (by omega)).mono ?_
  rintro e w6 ⟨rfl, hb6⟩
  have HB6 := Lib.hid hb6
  clear hb6
  go_wp2_with fail
  refine (sub_no a b _ HA.out HB.out HD.out).mono ?_
  rintro e w7 ⟨rfl, hb7⟩
  have HB7 := Lib.hid hb7
  clear hb7
  go_wp2
  go_ret
  exact ⟨ret_bool (by first | rfl | (simp; done) | (simp; omega)), below3 (below3 (below3 (below3 (below3 (below3 (HB1.out) HB2.out) HB3.out) HB4.out) HB5.out) HB6.out) HB7.out⟩

theorem back_np_ok_ok (a b : Int) (w : World) (ha : Fit a) (hb : Fit b) (hs : ¬ Fit (a + b)) (s1 : 0 < a) (s2 : 0 < b) (hd : Fit (a - b)) (hm : Fit (a * b)) :
    Calls Try.prog 5 #[.int .i64 a, .int .i64 b] w (TrueAns w) := by
  have HA := Lib.hid ha
  have HB := Lib.hid hb
  have HS := Lib.hid hs
  have HD := Lib.hid hd
  have HM := Lib.hid hm
  clear ha hb hs hd hm
  go_enter Try.func5, Try.ntmps5
  go_wp2_with fail
  refine (live_any _).mono ?_
  rintro e w1 ⟨rfl, hb1⟩
  have HB1 := Lib.hid hb1
  clear hb1
  go_wp2_with fail
  refine (add_no a b _ HA.out HB.out HS.out).mono ?_
  rintro e w2 ⟨rfl, hb2⟩
  have HB2 := Lib.hid hb2
  clear hb2
  go_wp2_with fail
  refine (add_no b a _ HB.out HA.out (fun h => HS.out (Int.add_comm b a ▸ h))).mono ?_
  rintro e w3 ⟨rfl, hb3⟩
  have HB3 := Lib.hid hb3
  clear hb3
  go_wp2_with fail
  refine (mul_ok a b _ HA.out HB.out HM.out).mono ?_
  rintro e w4 ⟨rfl, hb4⟩
  have HB4 := Lib.hid hb4
  clear hb4
  go_wp2_with fail
  refine (mul_as b a (a * b) _ HB.out HA.out HM.out (Int.mul_comm b a)).mono ?_
  rintro e w5 ⟨rfl, hb5⟩
  have HB5 := Lib.hid hb5
  clear hb5
  go_wp2_with fail
  refine (sub_ok a b _ HA.out HB.out HD.out).mono ?_
  rintro e w6 ⟨rfl, hb6⟩
  have HB6 := Lib.hid hb6
  clear hb6
  go_wp2_with fail
  refine (add_as (a - b) b a _ HD.out HB.out HA.out (by omega)).mono ?_
  rintro e w7 ⟨rfl, hb7⟩
  have HB7 := Lib.hid hb7
  clear hb7
  go_wp2
  go_ret
  exact ⟨ret_bool (by first | rfl | (simp; done) | (simp; omega)), below3 (below3 (below3 (below3 (below3 (below3 (HB1.out) HB2.out) HB3.out) HB4.out) HB5.out) HB6.out) HB7.out⟩

theorem back_np_ok_no (a b : Int) (w : World) (ha : Fit a) (hb : Fit b) (hs : ¬ Fit (a + b)) (s1 : 0 < a) (s2 : 0 < b) (hd : Fit (a - b)) (hm : ¬ Fit (a * b)) :
    Calls Try.prog 5 #[.int .i64 a, .int .i64 b] w (TrueAns w) := by
  have HA := Lib.hid ha
  have HB := Lib.hid hb
  have HS := Lib.hid hs
  have HD := Lib.hid hd
  have HM := Lib.hid hm
  clear ha hb hs hd hm
  go_enter Try.func5, Try.ntmps5
  go_wp2_with fail
  refine (live_any _).mono ?_
  rintro e w1 ⟨rfl, hb1⟩
  have HB1 := Lib.hid hb1
  clear hb1
  go_wp2_with fail
  refine (add_no a b _ HA.out HB.out HS.out).mono ?_
  rintro e w2 ⟨rfl, hb2⟩
  have HB2 := Lib.hid hb2
  clear hb2
  go_wp2_with fail
  refine (add_no b a _ HB.out HA.out (fun h => HS.out (Int.add_comm b a ▸ h))).mono ?_
  rintro e w3 ⟨rfl, hb3⟩
  have HB3 := Lib.hid hb3
  clear hb3
  go_wp2_with fail
  refine (mul_no a b _ HA.out HB.out HM.out).mono ?_
  rintro e w4 ⟨rfl, hb4⟩
  have HB4 := Lib.hid hb4
  clear hb4
  go_wp2_with fail
  refine (mul_no b a _ HB.out HA.out (fun h => HM.out (Int.mul_comm b a ▸ h))).mono ?_
  rintro e w5 ⟨rfl, hb5⟩
  have HB5 := Lib.hid hb5
  clear hb5
  go_wp2_with fail
  refine (sub_ok a b _ HA.out HB.out HD.out).mono ?_
  rintro e w6 ⟨rfl, hb6⟩
  have HB6 := Lib.hid hb6
  clear hb6
  go_wp2_with fail
  refine (add_as (a - b) b a _ HD.out HB.out HA.out (by omega)).mono ?_
  rintro e w7 ⟨rfl, hb7⟩
  have HB7 := Lib.hid hb7
  clear hb7
  go_wp2
  go_ret
  exact ⟨ret_bool (by first | rfl | (simp; done) | (simp; omega)), below3 (below3 (below3 (below3 (below3 (below3 (HB1.out) HB2.out) HB3.out) HB4.out) HB5.out) HB6.out) HB7.out⟩

theorem back_nm_ok_ok (a b : Int) (w : World) (ha : Fit a) (hb : Fit b) (hs : ¬ Fit (a + b)) (s1 : a < 0) (s2 : b < 0) (hd : Fit (a - b)) (hm : Fit (a * b)) :
    Calls Try.prog 5 #[.int .i64 a, .int .i64 b] w (TrueAns w) := by
  have HA := Lib.hid ha
  have HB := Lib.hid hb
  have HS := Lib.hid hs
  have HD := Lib.hid hd
  have HM := Lib.hid hm
  clear ha hb hs hd hm
  go_enter Try.func5, Try.ntmps5
  go_wp2_with fail
  refine (live_any _).mono ?_
  rintro e w1 ⟨rfl, hb1⟩
  have HB1 := Lib.hid hb1
  clear hb1
  go_wp2_with fail
  refine (add_no a b _ HA.out HB.out HS.out).mono ?_
  rintro e w2 ⟨rfl, hb2⟩
  have HB2 := Lib.hid hb2
  clear hb2
  go_wp2_with fail
  refine (add_no b a _ HB.out HA.out (fun h => HS.out (Int.add_comm b a ▸ h))).mono ?_
  rintro e w3 ⟨rfl, hb3⟩
  have HB3 := Lib.hid hb3
  clear hb3
  go_wp2_with fail
  refine (mul_ok a b _ HA.out HB.out HM.out).mono ?_
  rintro e w4 ⟨rfl, hb4⟩
  have HB4 := Lib.hid hb4
  clear hb4
  go_wp2_with fail
  refine (mul_as b a (a * b) _ HB.out HA.out HM.out (Int.mul_comm b a)).mono ?_
  rintro e w5 ⟨rfl, hb5⟩
  have HB5 := Lib.hid hb5
  clear hb5
  go_wp2_with fail
  refine (sub_ok a b _ HA.out HB.out HD.out).mono ?_
  rintro e w6 ⟨rfl, hb6⟩
  have HB6 := Lib.hid hb6
  clear hb6
  go_wp2_with fail
  refine (add_as (a - b) b a _ HD.out HB.out HA.out (by omega)).mono ?_
  rintro e w7 ⟨rfl, hb7⟩
  have HB7 := Lib.hid hb7
  clear hb7
  go_wp2
  go_ret
  exact ⟨ret_bool (by first | rfl | (simp; done) | (simp; omega)), below3 (below3 (below3 (below3 (below3 (below3 (HB1.out) HB2.out) HB3.out) HB4.out) HB5.out) HB6.out) HB7.out⟩

theorem back_nm_ok_no (a b : Int) (w : World) (ha : Fit a) (hb : Fit b) (hs : ¬ Fit (a + b)) (s1 : a < 0) (s2 : b < 0) (hd : Fit (a - b)) (hm : ¬ Fit (a * b)) :
    Calls Try.prog 5 #[.int .i64 a, .int .i64 b] w (TrueAns w) := by
  have HA := Lib.hid ha
  have HB := Lib.hid hb
  have HS := Lib.hid hs
  have HD := Lib.hid hd
  have HM := Lib.hid hm
  clear ha hb hs hd hm
  go_enter Try.func5, Try.ntmps5
  go_wp2_with fail
  refine (live_any _).mono ?_
  rintro e w1 ⟨rfl, hb1⟩
  have HB1 := Lib.hid hb1
  clear hb1
  go_wp2_with fail
  refine (add_no a b _ HA.out HB.out HS.out).mono ?_
  rintro e w2 ⟨rfl, hb2⟩
  have HB2 := Lib.hid hb2
  clear hb2
  go_wp2_with fail
  refine (add_no b a _ HB.out HA.out (fun h => HS.out (Int.add_comm b a ▸ h))).mono ?_
  rintro e w3 ⟨rfl, hb3⟩
  have HB3 := Lib.hid hb3
  clear hb3
  go_wp2_with fail
  refine (mul_no a b _ HA.out HB.out HM.out).mono ?_
  rintro e w4 ⟨rfl, hb4⟩
  have HB4 := Lib.hid hb4
  clear hb4
  go_wp2_with fail
  refine (mul_no b a _ HB.out HA.out (fun h => HM.out (Int.mul_comm b a ▸ h))).mono ?_
  rintro e w5 ⟨rfl, hb5⟩
  have HB5 := Lib.hid hb5
  clear hb5
  go_wp2_with fail
  refine (sub_ok a b _ HA.out HB.out HD.out).mono ?_
  rintro e w6 ⟨rfl, hb6⟩
  have HB6 := Lib.hid hb6
  clear hb6
  go_wp2_with fail
  refine (add_as (a - b) b a _ HD.out HB.out HA.out (by omega)).mono ?_
  rintro e w7 ⟨rfl, hb7⟩
  have HB7 := Lib.hid hb7
  clear hb7
  go_wp2
  go_ret
  exact ⟨ret_bool (by first | rfl | (simp; done) | (simp; omega)), below3 (below3 (below3 (below3 (below3 (below3 (HB1.out) HB2.out) HB3.out) HB4.out) HB5.out) HB6.out) HB7.out⟩

theorem back_any (a b : Int) (w : World) (ha : Fit a) (hb : Fit b) : Calls Try.prog 5 #[.int .i64 a, .int .i64 b] w (TrueAns w) := by
  by_cases hs : Fit (a + b) <;> by_cases hd : Fit (a - b) <;> by_cases hm : Fit (a * b)
  · exact back_ok_ok_ok a b w ha hb hs hd hm
  · exact back_ok_ok_no a b w ha hb hs hd hm
  · have hu := hd; have ha' := ha; have hb' := hb; unfold Fit at hu ha' hb'
    by_cases h : a < 0
    · exact back_ok_nl_ok a b w ha hb hs hd (by omega) (by omega) hm
    · exact back_ok_ng_ok a b w ha hb hs hd (by omega) (by omega) hm
  · have hu := hd; have ha' := ha; have hb' := hb; unfold Fit at hu ha' hb'
    by_cases h : a < 0
    · exact back_ok_nl_no a b w ha hb hs hd (by omega) (by omega) hm
    · exact back_ok_ng_no a b w ha hb hs hd (by omega) (by omega) hm
  · have hu := hs; have ha' := ha; have hb' := hb; unfold Fit at hu ha' hb'
    by_cases h : 0 < a
    · exact back_np_ok_ok a b w ha hb hs (by omega) (by omega) hd hm
    · exact back_nm_ok_ok a b w ha hb hs (by omega) (by omega) hd hm
  · have hu := hs; have ha' := ha; have hb' := hb; unfold Fit at hu ha' hb'
    by_cases h : 0 < a
    · exact back_np_ok_no a b w ha hb hs (by omega) (by omega) hd hm
    · exact back_nm_ok_no a b w ha hb hs (by omega) (by omega) hd hm
  · unfold Fit at *; omega
  · unfold Fit at *; omega

end Go.Proofs.Ytaaffpeppdinhaa

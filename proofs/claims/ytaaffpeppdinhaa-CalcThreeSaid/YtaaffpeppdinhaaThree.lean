/-
  The walk of the law CalcThree of layer 2: however three numbers are added, the sums are the same; so are products with a sum.
-/
import Derived.Test.YtaaffpeppdinhaaLive
namespace Go.Proofs.Ytaaffpeppdinhaa
open Go.RowKit

theorem fit_tz (z : Int) : Fit (tz z) := by
  unfold tz
  split
  · assumption
  · unfold Fit; omega
theorem fit_0 : Fit 0 := by unfold Fit; omega

theorem three_no (a b c : Int) (w : World) (ha : Fit a) (hb : Fit b) (hc : Fit c) (hx : ¬ Fit (a + b)) :
    Calls Try.prog 8 #[.int .i64 a, .int .i64 b, .int .i64 c] w (TrueAns w) := by
  have HA := Lib.hid ha
  have HB := Lib.hid hb
  have HC := Lib.hid hc
  have HX := Lib.hid hx
  clear ha hb hc hx
  go_enter Try.func8, Try.ntmps8
  go_wp2_with fail
  refine (live_any _).mono ?_
  rintro e w1 ⟨rfl, hb1⟩
  have HB1 := Lib.hid hb1
  clear hb1
  go_wp2_with fail
  refine (add_no a b _ HA.out HB.out HX.out).mono ?_
  rintro e w2 ⟨rfl, hb2⟩
  have HB2 := Lib.hid hb2
  clear hb2
  go_wp2_with fail
  refine (add_any 0 c _ fit_0 HC.out).mono ?_
  rintro e w3 ⟨rfl, hb3⟩
  have HB3 := Lib.hid hb3
  clear hb3
  go_wp2_with fail
  refine (add_any b c _ HB.out HC.out).mono ?_
  rintro e w4 ⟨rfl, hb4⟩
  have HB4 := Lib.hid hb4
  clear hb4
  go_wp2_with fail
  refine (add_any a (tz (b + c)) _ HA.out (fit_tz _)).mono ?_
  rintro e w5 ⟨rfl, hb5⟩
  have HB5 := Lib.hid hb5
  clear hb5
  go_wp2_with fail
  refine (mul_any 0 c _ fit_0 HC.out).mono ?_
  rintro e w6 ⟨rfl, hb6⟩
  have HB6 := Lib.hid hb6
  clear hb6
  go_wp2_with fail
  refine (mul_any a c _ HA.out HC.out).mono ?_
  rintro e w7 ⟨rfl, hb7⟩
  have HB7 := Lib.hid hb7
  clear hb7
  go_wp2_with fail
  refine (mul_any b c _ HB.out HC.out).mono ?_
  rintro e w8 ⟨rfl, hb8⟩
  have HB8 := Lib.hid hb8
  clear hb8
  go_wp2_with fail
  refine (add_any (tz (a * c)) (tz (b * c)) _ (fit_tz _) (fit_tz _)).mono ?_
  rintro e w9 ⟨rfl, hb9⟩
  have HB9 := Lib.hid hb9
  clear hb9
  go_wp2
  go_ret
  exact ⟨ret_bool (by first | rfl | (simp; done) | (simp; omega)), below3 (below3 (below3 (below3 (below3 (below3 (below3 (below3 (HB1.out) HB2.out) HB3.out) HB4.out) HB5.out) HB6.out) HB7.out) HB8.out) HB9.out⟩

theorem three_f_i (a b c : Int) (w : World) (ha : Fit a) (hb : Fit b) (hc : Fit c) (fx : Fit (a + b)) (fy : ¬ Fit (a + b + c)) (fm : ¬ Fit ((a + b) * c)) :
    Calls Try.prog 8 #[.int .i64 a, .int .i64 b, .int .i64 c] w (TrueAns w) := by
  have HA := Lib.hid ha
  have HB := Lib.hid hb
  have HC := Lib.hid hc
  have FX := Lib.hid fx
  have FY := Lib.hid fy
  have FM := Lib.hid fm
  clear ha hb hc fx fy fm
  go_enter Try.func8, Try.ntmps8
  go_wp2_with fail
  refine (live_any _).mono ?_
  rintro e w1 ⟨rfl, hb1⟩
  have HB1 := Lib.hid hb1
  clear hb1
  go_wp2_with fail
  refine (add_ok a b _ HA.out HB.out FX.out).mono ?_
  rintro e w2 ⟨rfl, hb2⟩
  have HB2 := Lib.hid hb2
  clear hb2
  go_wp2_with fail
  refine (add_no (a + b) c _ FX.out HC.out FY.out).mono ?_
  rintro e w3 ⟨rfl, hb3⟩
  have HB3 := Lib.hid hb3
  clear hb3
  go_wp2_with fail
  refine (add_any b c _ HB.out HC.out).mono ?_
  rintro e w4 ⟨rfl, hb4⟩
  have HB4 := Lib.hid hb4
  clear hb4
  go_wp2_with fail
  refine (add_any a (tz (b + c)) _ HA.out (fit_tz _)).mono ?_
  rintro e w5 ⟨rfl, hb5⟩
  have HB5 := Lib.hid hb5
  clear hb5
  go_wp2_with fail
  refine (mul_no (a + b) c _ FX.out HC.out FM.out).mono ?_
  rintro e w6 ⟨rfl, hb6⟩
  have HB6 := Lib.hid hb6
  clear hb6
  go_wp2_with fail
  refine (mul_any a c _ HA.out HC.out).mono ?_
  rintro e w7 ⟨rfl, hb7⟩
  have HB7 := Lib.hid hb7
  clear hb7
  go_wp2_with fail
  refine (mul_any b c _ HB.out HC.out).mono ?_
  rintro e w8 ⟨rfl, hb8⟩
  have HB8 := Lib.hid hb8
  clear hb8
  go_wp2_with fail
  refine (add_any (tz (a * c)) (tz (b * c)) _ (fit_tz _) (fit_tz _)).mono ?_
  rintro e w9 ⟨rfl, hb9⟩
  have HB9 := Lib.hid hb9
  clear hb9
  go_wp2
  go_ret
  exact ⟨ret_bool (by first | rfl | (simp; done) | (simp; omega)), below3 (below3 (below3 (below3 (below3 (below3 (below3 (below3 (HB1.out) HB2.out) HB3.out) HB4.out) HB5.out) HB6.out) HB7.out) HB8.out) HB9.out⟩

theorem three_f_j (a b c : Int) (w : World) (ha : Fit a) (hb : Fit b) (hc : Fit c) (fx : Fit (a + b)) (fy : ¬ Fit (a + b + c)) (fm : Fit ((a + b) * c)) (fn : ¬ Fit (a * c)) :
    Calls Try.prog 8 #[.int .i64 a, .int .i64 b, .int .i64 c] w (TrueAns w) := by
  have HA := Lib.hid ha
  have HB := Lib.hid hb
  have HC := Lib.hid hc
  have FX := Lib.hid fx
  have FY := Lib.hid fy
  have FM := Lib.hid fm
  have FN := Lib.hid fn
  clear ha hb hc fx fy fm fn
  go_enter Try.func8, Try.ntmps8
  go_wp2_with fail
  refine (live_any _).mono ?_
  rintro e w1 ⟨rfl, hb1⟩
  have HB1 := Lib.hid hb1
  clear hb1
  go_wp2_with fail
  refine (add_ok a b _ HA.out HB.out FX.out).mono ?_
  rintro e w2 ⟨rfl, hb2⟩
  have HB2 := Lib.hid hb2
  clear hb2
  go_wp2_with fail
  refine (add_no (a + b) c _ FX.out HC.out FY.out).mono ?_
  rintro e w3 ⟨rfl, hb3⟩
  have HB3 := Lib.hid hb3
  clear hb3
  go_wp2_with fail
  refine (add_any b c _ HB.out HC.out).mono ?_
  rintro e w4 ⟨rfl, hb4⟩
  have HB4 := Lib.hid hb4
  clear hb4
  go_wp2_with fail
  refine (add_any a (tz (b + c)) _ HA.out (fit_tz _)).mono ?_
  rintro e w5 ⟨rfl, hb5⟩
  have HB5 := Lib.hid hb5
  clear hb5
  go_wp2_with fail
  refine (mul_ok (a + b) c _ FX.out HC.out FM.out).mono ?_
  rintro e w6 ⟨rfl, hb6⟩
  have HB6 := Lib.hid hb6
  clear hb6
  go_wp2_with fail
  refine (mul_no a c _ HA.out HC.out FN.out).mono ?_
  rintro e w7 ⟨rfl, hb7⟩
  have HB7 := Lib.hid hb7
  clear hb7
  go_wp2_with fail
  refine (mul_any b c _ HB.out HC.out).mono ?_
  rintro e w8 ⟨rfl, hb8⟩
  have HB8 := Lib.hid hb8
  clear hb8
  go_wp2_with fail
  refine (add_any 0 (tz (b * c)) _ fit_0 (fit_tz _)).mono ?_
  rintro e w9 ⟨rfl, hb9⟩
  have HB9 := Lib.hid hb9
  clear hb9
  go_wp2
  go_ret
  exact ⟨ret_bool (by first | rfl | (simp; done) | (simp; omega)), below3 (below3 (below3 (below3 (below3 (below3 (below3 (below3 (HB1.out) HB2.out) HB3.out) HB4.out) HB5.out) HB6.out) HB7.out) HB8.out) HB9.out⟩

theorem three_f_k (a b c : Int) (w : World) (ha : Fit a) (hb : Fit b) (hc : Fit c) (fx : Fit (a + b)) (fy : ¬ Fit (a + b + c)) (fm : Fit ((a + b) * c)) (fn : Fit (a * c)) (fo : ¬ Fit (b * c)) :
    Calls Try.prog 8 #[.int .i64 a, .int .i64 b, .int .i64 c] w (TrueAns w) := by
  have HA := Lib.hid ha
  have HB := Lib.hid hb
  have HC := Lib.hid hc
  have FX := Lib.hid fx
  have FY := Lib.hid fy
  have FM := Lib.hid fm
  have FN := Lib.hid fn
  have FO := Lib.hid fo
  clear ha hb hc fx fy fm fn fo
  go_enter Try.func8, Try.ntmps8
  go_wp2_with fail
  refine (live_any _).mono ?_
  rintro e w1 ⟨rfl, hb1⟩
  have HB1 := Lib.hid hb1
  clear hb1
  go_wp2_with fail
  refine (add_ok a b _ HA.out HB.out FX.out).mono ?_
  rintro e w2 ⟨rfl, hb2⟩
  have HB2 := Lib.hid hb2
  clear hb2
  go_wp2_with fail
  refine (add_no (a + b) c _ FX.out HC.out FY.out).mono ?_
  rintro e w3 ⟨rfl, hb3⟩
  have HB3 := Lib.hid hb3
  clear hb3
  go_wp2_with fail
  refine (add_any b c _ HB.out HC.out).mono ?_
  rintro e w4 ⟨rfl, hb4⟩
  have HB4 := Lib.hid hb4
  clear hb4
  go_wp2_with fail
  refine (add_any a (tz (b + c)) _ HA.out (fit_tz _)).mono ?_
  rintro e w5 ⟨rfl, hb5⟩
  have HB5 := Lib.hid hb5
  clear hb5
  go_wp2_with fail
  refine (mul_ok (a + b) c _ FX.out HC.out FM.out).mono ?_
  rintro e w6 ⟨rfl, hb6⟩
  have HB6 := Lib.hid hb6
  clear hb6
  go_wp2_with fail
  refine (mul_ok a c _ HA.out HC.out FN.out).mono ?_
  rintro e w7 ⟨rfl, hb7⟩
  have HB7 := Lib.hid hb7
  clear hb7
  go_wp2_with fail
  refine (mul_no b c _ HB.out HC.out FO.out).mono ?_
  rintro e w8 ⟨rfl, hb8⟩
  have HB8 := Lib.hid hb8
  clear hb8
  go_wp2_with fail
  refine (add_any (a * c) 0 _ FN.out fit_0).mono ?_
  rintro e w9 ⟨rfl, hb9⟩
  have HB9 := Lib.hid hb9
  clear hb9
  go_wp2
  go_ret
  exact ⟨ret_bool (by first | rfl | (simp; done) | (simp; omega)), below3 (below3 (below3 (below3 (below3 (below3 (below3 (below3 (HB1.out) HB2.out) HB3.out) HB4.out) HB5.out) HB6.out) HB7.out) HB8.out) HB9.out⟩

theorem three_f_all (a b c : Int) (w : World) (ha : Fit a) (hb : Fit b) (hc : Fit c) (fx : Fit (a + b)) (fy : ¬ Fit (a + b + c)) (fm : Fit ((a + b) * c)) (fn : Fit (a * c)) (fo : Fit (b * c)) :
    Calls Try.prog 8 #[.int .i64 a, .int .i64 b, .int .i64 c] w (TrueAns w) := by
  have HA := Lib.hid ha
  have HB := Lib.hid hb
  have HC := Lib.hid hc
  have FX := Lib.hid fx
  have FY := Lib.hid fy
  have FM := Lib.hid fm
  have FN := Lib.hid fn
  have FO := Lib.hid fo
  clear ha hb hc fx fy fm fn fo
  go_enter Try.func8, Try.ntmps8
  go_wp2_with fail
  refine (live_any _).mono ?_
  rintro e w1 ⟨rfl, hb1⟩
  have HB1 := Lib.hid hb1
  clear hb1
  go_wp2_with fail
  refine (add_ok a b _ HA.out HB.out FX.out).mono ?_
  rintro e w2 ⟨rfl, hb2⟩
  have HB2 := Lib.hid hb2
  clear hb2
  go_wp2_with fail
  refine (add_no (a + b) c _ FX.out HC.out FY.out).mono ?_
  rintro e w3 ⟨rfl, hb3⟩
  have HB3 := Lib.hid hb3
  clear hb3
  go_wp2_with fail
  refine (add_any b c _ HB.out HC.out).mono ?_
  rintro e w4 ⟨rfl, hb4⟩
  have HB4 := Lib.hid hb4
  clear hb4
  go_wp2_with fail
  refine (add_any a (tz (b + c)) _ HA.out (fit_tz _)).mono ?_
  rintro e w5 ⟨rfl, hb5⟩
  have HB5 := Lib.hid hb5
  clear hb5
  go_wp2_with fail
  refine (mul_ok (a + b) c _ FX.out HC.out FM.out).mono ?_
  rintro e w6 ⟨rfl, hb6⟩
  have HB6 := Lib.hid hb6
  clear hb6
  go_wp2_with fail
  refine (mul_ok a c _ HA.out HC.out FN.out).mono ?_
  rintro e w7 ⟨rfl, hb7⟩
  have HB7 := Lib.hid hb7
  clear hb7
  go_wp2_with fail
  refine (mul_ok b c _ HB.out HC.out FO.out).mono ?_
  rintro e w8 ⟨rfl, hb8⟩
  have HB8 := Lib.hid hb8
  clear hb8
  go_wp2_with fail
  refine (add_as (a * c) (b * c) ((a + b) * c) _ FN.out FO.out FM.out (Int.add_mul a b c).symm).mono ?_
  rintro e w9 ⟨rfl, hb9⟩
  have HB9 := Lib.hid hb9
  clear hb9
  go_wp2
  go_ret
  exact ⟨ret_bool (by first | rfl | (simp; done) | (simp; omega)), below3 (below3 (below3 (below3 (below3 (below3 (below3 (below3 (HB1.out) HB2.out) HB3.out) HB4.out) HB5.out) HB6.out) HB7.out) HB8.out) HB9.out⟩

theorem three_g_i (a b c : Int) (w : World) (ha : Fit a) (hb : Fit b) (hc : Fit c) (fx : Fit (a + b)) (fy : Fit (a + b + c)) (fp : ¬ Fit (b + c)) (fm : ¬ Fit ((a + b) * c)) :
    Calls Try.prog 8 #[.int .i64 a, .int .i64 b, .int .i64 c] w (TrueAns w) := by
  have HA := Lib.hid ha
  have HB := Lib.hid hb
  have HC := Lib.hid hc
  have FX := Lib.hid fx
  have FY := Lib.hid fy
  have FP := Lib.hid fp
  have FM := Lib.hid fm
  clear ha hb hc fx fy fp fm
  go_enter Try.func8, Try.ntmps8
  go_wp2_with fail
  refine (live_any _).mono ?_
  rintro e w1 ⟨rfl, hb1⟩
  have HB1 := Lib.hid hb1
  clear hb1
  go_wp2_with fail
  refine (add_ok a b _ HA.out HB.out FX.out).mono ?_
  rintro e w2 ⟨rfl, hb2⟩
  have HB2 := Lib.hid hb2
  clear hb2
  go_wp2_with fail
  refine (add_ok (a + b) c _ FX.out HC.out FY.out).mono ?_
  rintro e w3 ⟨rfl, hb3⟩
  have HB3 := Lib.hid hb3
  clear hb3
  go_wp2_with fail
  refine (add_no b c _ HB.out HC.out FP.out).mono ?_
  rintro e w4 ⟨rfl, hb4⟩
  have HB4 := Lib.hid hb4
  clear hb4
  go_wp2_with fail
  refine (add_any a 0 _ HA.out fit_0).mono ?_
  rintro e w5 ⟨rfl, hb5⟩
  have HB5 := Lib.hid hb5
  clear hb5
  go_wp2_with fail
  refine (mul_no (a + b) c _ FX.out HC.out FM.out).mono ?_
  rintro e w6 ⟨rfl, hb6⟩
  have HB6 := Lib.hid hb6
  clear hb6
  go_wp2_with fail
  refine (mul_any a c _ HA.out HC.out).mono ?_
  rintro e w7 ⟨rfl, hb7⟩
  have HB7 := Lib.hid hb7
  clear hb7
  go_wp2_with fail
  refine (mul_any b c _ HB.out HC.out).mono ?_
  rintro e w8 ⟨rfl, hb8⟩
  have HB8 := Lib.hid hb8
  clear hb8
  go_wp2_with fail
  refine (add_any (tz (a * c)) (tz (b * c)) _ (fit_tz _) (fit_tz _)).mono ?_
  rintro e w9 ⟨rfl, hb9⟩
  have HB9 := Lib.hid hb9
  clear hb9
  go_wp2
  go_ret
  exact ⟨ret_bool (by first | rfl | (simp; done) | (simp; omega)), below3 (below3 (below3 (below3 (below3 (below3 (below3 (below3 (HB1.out) HB2.out) HB3.out) HB4.out) HB5.out) HB6.out) HB7.out) HB8.out) HB9.out⟩

theorem three_g_j (a b c : Int) (w : World) (ha : Fit a) (hb : Fit b) (hc : Fit c) (fx : Fit (a + b)) (fy : Fit (a + b + c)) (fp : ¬ Fit (b + c)) (fm : Fit ((a + b) * c)) (fn : ¬ Fit (a * c)) :
    Calls Try.prog 8 #[.int .i64 a, .int .i64 b, .int .i64 c] w (TrueAns w) := by
  have HA := Lib.hid ha
  have HB := Lib.hid hb
  have HC := Lib.hid hc
  have FX := Lib.hid fx
  have FY := Lib.hid fy
  have FP := Lib.hid fp
  have FM := Lib.hid fm
  have FN := Lib.hid fn
  clear ha hb hc fx fy fp fm fn
  go_enter Try.func8, Try.ntmps8
  go_wp2_with fail
  refine (live_any _).mono ?_
  rintro e w1 ⟨rfl, hb1⟩
  have HB1 := Lib.hid hb1
  clear hb1
  go_wp2_with fail
  refine (add_ok a b _ HA.out HB.out FX.out).mono ?_
  rintro e w2 ⟨rfl, hb2⟩
  have HB2 := Lib.hid hb2
  clear hb2
  go_wp2_with fail
  refine (add_ok (a + b) c _ FX.out HC.out FY.out).mono ?_
  rintro e w3 ⟨rfl, hb3⟩
  have HB3 := Lib.hid hb3
  clear hb3
  go_wp2_with fail
  refine (add_no b c _ HB.out HC.out FP.out).mono ?_
  rintro e w4 ⟨rfl, hb4⟩
  have HB4 := Lib.hid hb4
  clear hb4
  go_wp2_with fail
  refine (add_any a 0 _ HA.out fit_0).mono ?_
  rintro e w5 ⟨rfl, hb5⟩
  have HB5 := Lib.hid hb5
  clear hb5
  go_wp2_with fail
  refine (mul_ok (a + b) c _ FX.out HC.out FM.out).mono ?_
  rintro e w6 ⟨rfl, hb6⟩
  have HB6 := Lib.hid hb6
  clear hb6
  go_wp2_with fail
  refine (mul_no a c _ HA.out HC.out FN.out).mono ?_
  rintro e w7 ⟨rfl, hb7⟩
  have HB7 := Lib.hid hb7
  clear hb7
  go_wp2_with fail
  refine (mul_any b c _ HB.out HC.out).mono ?_
  rintro e w8 ⟨rfl, hb8⟩
  have HB8 := Lib.hid hb8
  clear hb8
  go_wp2_with fail
  refine (add_any 0 (tz (b * c)) _ fit_0 (fit_tz _)).mono ?_
  rintro e w9 ⟨rfl, hb9⟩
  have HB9 := Lib.hid hb9
  clear hb9
  go_wp2
  go_ret
  exact ⟨ret_bool (by first | rfl | (simp; done) | (simp; omega)), below3 (below3 (below3 (below3 (below3 (below3 (below3 (below3 (HB1.out) HB2.out) HB3.out) HB4.out) HB5.out) HB6.out) HB7.out) HB8.out) HB9.out⟩

theorem three_g_k (a b c : Int) (w : World) (ha : Fit a) (hb : Fit b) (hc : Fit c) (fx : Fit (a + b)) (fy : Fit (a + b + c)) (fp : ¬ Fit (b + c)) (fm : Fit ((a + b) * c)) (fn : Fit (a * c)) (fo : ¬ Fit (b * c)) :
    Calls Try.prog 8 #[.int .i64 a, .int .i64 b, .int .i64 c] w (TrueAns w) := by
  have HA := Lib.hid ha
  have HB := Lib.hid hb
  have HC := Lib.hid hc
  have FX := Lib.hid fx
  have FY := Lib.hid fy
  have FP := Lib.hid fp
  have FM := Lib.hid fm
  have FN := Lib.hid fn
  have FO := Lib.hid fo
  clear ha hb hc fx fy fp fm fn fo
  go_enter Try.func8, Try.ntmps8
  go_wp2_with fail
  refine (live_any _).mono ?_
  rintro e w1 ⟨rfl, hb1⟩
  have HB1 := Lib.hid hb1
  clear hb1
  go_wp2_with fail
  refine (add_ok a b _ HA.out HB.out FX.out).mono ?_
  rintro e w2 ⟨rfl, hb2⟩
  have HB2 := Lib.hid hb2
  clear hb2
  go_wp2_with fail
  refine (add_ok (a + b) c _ FX.out HC.out FY.out).mono ?_
  rintro e w3 ⟨rfl, hb3⟩
  have HB3 := Lib.hid hb3
  clear hb3
  go_wp2_with fail
  refine (add_no b c _ HB.out HC.out FP.out).mono ?_
  rintro e w4 ⟨rfl, hb4⟩
  have HB4 := Lib.hid hb4
  clear hb4
  go_wp2_with fail
  refine (add_any a 0 _ HA.out fit_0).mono ?_
  rintro e w5 ⟨rfl, hb5⟩
  have HB5 := Lib.hid hb5
  clear hb5
  go_wp2_with fail
  refine (mul_ok (a + b) c _ FX.out HC.out FM.out).mono ?_
  rintro e w6 ⟨rfl, hb6⟩
  have HB6 := Lib.hid hb6
  clear hb6
  go_wp2_with fail
  refine (mul_ok a c _ HA.out HC.out FN.out).mono ?_
  rintro e w7 ⟨rfl, hb7⟩
  have HB7 := Lib.hid hb7
  clear hb7
  go_wp2_with fail
  refine (mul_no b c _ HB.out HC.out FO.out).mono ?_
  rintro e w8 ⟨rfl, hb8⟩
  have HB8 := Lib.hid hb8
  clear hb8
  go_wp2_with fail
  refine (add_any (a * c) 0 _ FN.out fit_0).mono ?_
  rintro e w9 ⟨rfl, hb9⟩
  have HB9 := Lib.hid hb9
  clear hb9
  go_wp2
  go_ret
  exact ⟨ret_bool (by first | rfl | (simp; done) | (simp; omega)), below3 (below3 (below3 (below3 (below3 (below3 (below3 (below3 (HB1.out) HB2.out) HB3.out) HB4.out) HB5.out) HB6.out) HB7.out) HB8.out) HB9.out⟩

theorem three_g_all (a b c : Int) (w : World) (ha : Fit a) (hb : Fit b) (hc : Fit c) (fx : Fit (a + b)) (fy : Fit (a + b + c)) (fp : ¬ Fit (b + c)) (fm : Fit ((a + b) * c)) (fn : Fit (a * c)) (fo : Fit (b * c)) :
    Calls Try.prog 8 #[.int .i64 a, .int .i64 b, .int .i64 c] w (TrueAns w) := by
  have HA := Lib.hid ha
  have HB := Lib.hid hb
  have HC := Lib.hid hc
  have FX := Lib.hid fx
  have FY := Lib.hid fy
  have FP := Lib.hid fp
  have FM := Lib.hid fm
  have FN := Lib.hid fn
  have FO := Lib.hid fo
  clear ha hb hc fx fy fp fm fn fo
  go_enter Try.func8, Try.ntmps8
  go_wp2_with fail
  refine (live_any _).mono ?_
  rintro e w1 ⟨rfl, hb1⟩
  have HB1 := Lib.hid hb1
  clear hb1
  go_wp2_with fail
  refine (add_ok a b _ HA.out HB.out FX.out).mono ?_
  rintro e w2 ⟨rfl, hb2⟩
  have HB2 := Lib.hid hb2
  clear hb2
  go_wp2_with fail
  refine (add_ok (a + b) c _ FX.out HC.out FY.out).mono ?_
  rintro e w3 ⟨rfl, hb3⟩
  have HB3 := Lib.hid hb3
  clear hb3
  go_wp2_with fail
  refine (add_no b c _ HB.out HC.out FP.out).mono ?_
  rintro e w4 ⟨rfl, hb4⟩
  have HB4 := Lib.hid hb4
  clear hb4
  go_wp2_with fail
  refine (add_any a 0 _ HA.out fit_0).mono ?_
  rintro e w5 ⟨rfl, hb5⟩
  have HB5 := Lib.hid hb5
  clear hb5
  go_wp2_with fail
  refine (mul_ok (a + b) c _ FX.out HC.out FM.out).mono ?_
  rintro e w6 ⟨rfl, hb6⟩
  have HB6 := Lib.hid hb6
  clear hb6
  go_wp2_with fail
  refine (mul_ok a c _ HA.out HC.out FN.out).mono ?_
  rintro e w7 ⟨rfl, hb7⟩
  have HB7 := Lib.hid hb7
  clear hb7
  go_wp2_with fail
  refine (mul_ok b c _ HB.out HC.out FO.out).mono ?_
  rintro e w8 ⟨rfl, hb8⟩
  have HB8 := Lib.hid hb8
  clear hb8
  go_wp2_with fail
  refine (add_as (a * c) (b * c) ((a + b) * c) _ FN.out FO.out FM.out (Int.add_mul a b c).symm).mono ?_
  rintro e w9 ⟨rfl, hb9⟩
  have HB9 := Lib.hid hb9
  clear hb9
  go_wp2
  go_ret
  exact ⟨ret_bool (by first | rfl | (simp; done) | (simp; omega)), below3 (below3 (below3 (below3 (below3 (below3 (below3 (below3 (HB1.out) HB2.out) HB3.out) HB4.out) HB5.out) HB6.out) HB7.out) HB8.out) HB9.out⟩

theorem three_all_i (a b c : Int) (w : World) (ha : Fit a) (hb : Fit b) (hc : Fit c) (fx : Fit (a + b)) (fy : Fit (a + b + c)) (fp : Fit (b + c)) (fm : ¬ Fit ((a + b) * c)) :
    Calls Try.prog 8 #[.int .i64 a, .int .i64 b, .int .i64 c] w (TrueAns w) := by
  have HA := Lib.hid ha
  have HB := Lib.hid hb
  have HC := Lib.hid hc
  have FX := Lib.hid fx
  have FY := Lib.hid fy
  have FP := Lib.hid fp
  have FM := Lib.hid fm
  clear ha hb hc fx fy fp fm
  go_enter Try.func8, Try.ntmps8
  go_wp2_with fail
  refine (live_any _).mono ?_
  rintro e w1 ⟨rfl, hb1⟩
  have HB1 := Lib.hid hb1
  clear hb1
  go_wp2_with fail
  refine (add_ok a b _ HA.out HB.out FX.out).mono ?_
  rintro e w2 ⟨rfl, hb2⟩
  have HB2 := Lib.hid hb2
  clear hb2
  go_wp2_with fail
  refine (add_ok (a + b) c _ FX.out HC.out FY.out).mono ?_
  rintro e w3 ⟨rfl, hb3⟩
  have HB3 := Lib.hid hb3
  clear hb3
  go_wp2_with fail
  refine (add_ok b c _ HB.out HC.out FP.out).mono ?_
  rintro e w4 ⟨rfl, hb4⟩
  have HB4 := Lib.hid hb4
  clear hb4
  go_wp2_with fail
  refine (add_as a (b + c) (a + b + c) _ HA.out FP.out FY.out (by omega)).mono ?_
  rintro e w5 ⟨rfl, hb5⟩
  have HB5 := Lib.hid hb5
  clear hb5
  go_wp2_with fail
  refine (mul_no (a + b) c _ FX.out HC.out FM.out).mono ?_
  rintro e w6 ⟨rfl, hb6⟩
  have HB6 := Lib.hid hb6
  clear hb6
  go_wp2_with fail
  refine (mul_any a c _ HA.out HC.out).mono ?_
  rintro e w7 ⟨rfl, hb7⟩
  have HB7 := Lib.hid hb7
  clear hb7
  go_wp2_with fail
  refine (mul_any b c _ HB.out HC.out).mono ?_
  rintro e w8 ⟨rfl, hb8⟩
  have HB8 := Lib.hid hb8
  clear hb8
  go_wp2_with fail
  refine (add_any (tz (a * c)) (tz (b * c)) _ (fit_tz _) (fit_tz _)).mono ?_
  rintro e w9 ⟨rfl, hb9⟩
  have HB9 := Lib.hid hb9
  clear hb9
  go_wp2
  go_ret
  exact ⟨ret_bool (by first | rfl | (simp; done) | (simp; omega)), below3 (below3 (below3 (below3 (below3 (below3 (below3 (below3 (HB1.out) HB2.out) HB3.out) HB4.out) HB5.out) HB6.out) HB7.out) HB8.out) HB9.out⟩

theorem three_all_j (a b c : Int) (w : World) (ha : Fit a) (hb : Fit b) (hc : Fit c) (fx : Fit (a + b)) (fy : Fit (a + b + c)) (fp : Fit (b + c)) (fm : Fit ((a + b) * c)) (fn : ¬ Fit (a * c)) :
    Calls Try.prog 8 #[.int .i64 a, .int .i64 b, .int .i64 c] w (TrueAns w) := by
  have HA := Lib.hid ha
  have HB := Lib.hid hb
  have HC := Lib.hid hc
  have FX := Lib.hid fx
  have FY := Lib.hid fy
  have FP := Lib.hid fp
  have FM := Lib.hid fm
  have FN := Lib.hid fn
  clear ha hb hc fx fy fp fm fn
  go_enter Try.func8, Try.ntmps8
  go_wp2_with fail
  refine (live_any _).mono ?_
  rintro e w1 ⟨rfl, hb1⟩
  have HB1 := Lib.hid hb1
  clear hb1
  go_wp2_with fail
  refine (add_ok a b _ HA.out HB.out FX.out).mono ?_
  rintro e w2 ⟨rfl, hb2⟩
  have HB2 := Lib.hid hb2
  clear hb2
  go_wp2_with fail
  refine (add_ok (a + b) c _ FX.out HC.out FY.out).mono ?_
  rintro e w3 ⟨rfl, hb3⟩
  have HB3 := Lib.hid hb3
  clear hb3
  go_wp2_with fail
  refine (add_ok b c _ HB.out HC.out FP.out).mono ?_
  rintro e w4 ⟨rfl, hb4⟩
  have HB4 := Lib.hid hb4
  clear hb4
  go_wp2_with fail
  refine (add_as a (b + c) (a + b + c) _ HA.out FP.out FY.out (by omega)).mono ?_
  rintro e w5 ⟨rfl, hb5⟩
  have HB5 := Lib.hid hb5
  clear hb5
  go_wp2_with fail
  refine (mul_ok (a + b) c _ FX.out HC.out FM.out).mono ?_
  rintro e w6 ⟨rfl, hb6⟩
  have HB6 := Lib.hid hb6
  clear hb6
  go_wp2_with fail
  refine (mul_no a c _ HA.out HC.out FN.out).mono ?_
  rintro e w7 ⟨rfl, hb7⟩
  have HB7 := Lib.hid hb7
  clear hb7
  go_wp2_with fail
  refine (mul_any b c _ HB.out HC.out).mono ?_
  rintro e w8 ⟨rfl, hb8⟩
  have HB8 := Lib.hid hb8
  clear hb8
  go_wp2_with fail
  refine (add_any 0 (tz (b * c)) _ fit_0 (fit_tz _)).mono ?_
  rintro e w9 ⟨rfl, hb9⟩
  have HB9 := Lib.hid hb9
  clear hb9
  go_wp2
  go_ret
  exact ⟨ret_bool (by first | rfl | (simp; done) | (simp; omega)), below3 (below3 (below3 (below3 (below3 (below3 (below3 (below3 (HB1.out) HB2.out) HB3.out) HB4.out) HB5.out) HB6.out) HB7.out) HB8.out) HB9.out⟩

theorem three_all_k (a b c : Int) (w : World) (ha : Fit a) (hb : Fit b) (hc : Fit c) (fx : Fit (a + b)) (fy : Fit (a + b + c)) (fp : Fit (b + c)) (fm : Fit ((a + b) * c)) (fn : Fit (a * c)) (fo : ¬ Fit (b * c)) :
    Calls Try.prog 8 #[.int .i64 a, .int .i64 b, .int .i64 c] w (TrueAns w) := by
  have HA := Lib.hid ha
  have HB := Lib.hid hb
  have HC := Lib.hid hc
  have FX := Lib.hid fx
  have FY := Lib.hid fy
  have FP := Lib.hid fp
  have FM := Lib.hid fm
  have FN := Lib.hid fn
  have FO := Lib.hid fo
  clear ha hb hc fx fy fp fm fn fo
  go_enter Try.func8, Try.ntmps8
  go_wp2_with fail
  refine (live_any _).mono ?_
  rintro e w1 ⟨rfl, hb1⟩
  have HB1 := Lib.hid hb1
  clear hb1
  go_wp2_with fail
  refine (add_ok a b _ HA.out HB.out FX.out).mono ?_
  rintro e w2 ⟨rfl, hb2⟩
  have HB2 := Lib.hid hb2
  clear hb2
  go_wp2_with fail
  refine (add_ok (a + b) c _ FX.out HC.out FY.out).mono ?_
  rintro e w3 ⟨rfl, hb3⟩
  have HB3 := Lib.hid hb3
  clear hb3
  go_wp2_with fail
  refine (add_ok b c _ HB.out HC.out FP.out).mono ?_
  rintro e w4 ⟨rfl, hb4⟩
  have HB4 := Lib.hid hb4
  clear hb4
  go_wp2_with fail
  refine (add_as a (b + c) (a + b + c) _ HA.out FP.out FY.out (by omega)).mono ?_
  rintro e w5 ⟨rfl, hb5⟩
  have HB5 := Lib.hid hb5
  clear hb5
  go_wp2_with fail
  refine (mul_ok (a + b) c _ FX.out HC.out FM.out).mono ?_
  rintro e w6 ⟨rfl, hb6⟩
  have HB6 := Lib.hid hb6
  clear hb6
  go_wp2_with fail
  refine (mul_ok a c _ HA.out HC.out FN.out).mono ?_
  rintro e w7 ⟨rfl, hb7⟩
  have HB7 := Lib.hid hb7
  clear hb7
  go_wp2_with fail
  refine (mul_no b c _ HB.out HC.out FO.out).mono ?_
  rintro e w8 ⟨rfl, hb8⟩
  have HB8 := Lib.hid hb8
  clear hb8
  go_wp2_with fail
  refine (add_any (a * c) 0 _ FN.out fit_0).mono ?_
  rintro e w9 ⟨rfl, hb9⟩
  have HB9 := Lib.hid hb9
  clear hb9
  go_wp2
  go_ret
  exact ⟨ret_bool (by first | rfl | (simp; done) | (simp; omega)), below3 (below3 (below3 (below3 (below3 (below3 (below3 (below3 (HB1.out) HB2.out) HB3.out) HB4.out) HB5.out) HB6.out) HB7.out) HB8.out) HB9.out⟩

theorem three_all_all (a b c : Int) (w : World) (ha : Fit a) (hb : Fit b) (hc : Fit c) (fx : Fit (a + b)) (fy : Fit (a + b + c)) (fp : Fit (b + c)) (fm : Fit ((a + b) * c)) (fn : Fit (a * c)) (fo : Fit (b * c)) :
    Calls Try.prog 8 #[.int .i64 a, .int .i64 b, .int .i64 c] w (TrueAns w) := by
  have HA := Lib.hid ha
  have HB := Lib.hid hb
  have HC := Lib.hid hc
  have FX := Lib.hid fx
  have FY := Lib.hid fy
  have FP := Lib.hid fp
  have FM := Lib.hid fm
  have FN := Lib.hid fn
  have FO := Lib.hid fo
  clear ha hb hc fx fy fp fm fn fo
  go_enter Try.func8, Try.ntmps8
  go_wp2_with fail
  refine (live_any _).mono ?_
  rintro e w1 ⟨rfl, hb1⟩
  have HB1 := Lib.hid hb1
  clear hb1
  go_wp2_with fail
  refine (add_ok a b _ HA.out HB.out FX.out).mono ?_
  rintro e w2 ⟨rfl, hb2⟩
  have HB2 := Lib.hid hb2
  clear hb2
  go_wp2_with fail
  refine (add_ok (a + b) c _ FX.out HC.out FY.out).mono ?_
  rintro e w3 ⟨rfl, hb3⟩
  have HB3 := Lib.hid hb3
  clear hb3
  go_wp2_with fail
  refine (add_ok b c _ HB.out HC.out FP.out).mono ?_
  rintro e w4 ⟨rfl, hb4⟩
  have HB4 := Lib.hid hb4
  clear hb4
  go_wp2_with fail
  refine (add_as a (b + c) (a + b + c) _ HA.out FP.out FY.out (by omega)).mono ?_
  rintro e w5 ⟨rfl, hb5⟩
  have HB5 := Lib.hid hb5
  clear hb5
  go_wp2_with fail
  refine (mul_ok (a + b) c _ FX.out HC.out FM.out).mono ?_
  rintro e w6 ⟨rfl, hb6⟩
  have HB6 := Lib.hid hb6
  clear hb6
  go_wp2_with fail
  refine (mul_ok a c _ HA.out HC.out FN.out).mono ?_
  rintro e w7 ⟨rfl, hb7⟩
  have HB7 := Lib.hid hb7
  clear hb7
  go_wp2_with fail
  refine (mul_ok b c _ HB.out HC.out FO.out).mono ?_
  rintro e w8 ⟨rfl, hb8⟩
  have HB8 := Lib.hid hb8
  clear hb8
  go_wp2_with fail
  refine (add_as (a * c) (b * c) ((a + b) * c) _ FN.out FO.out FM.out (Int.add_mul a b c).symm).mono ?_
  rintro e w9 ⟨rfl, hb9⟩
  have HB9 := Lib.hid hb9
  clear hb9
  go_wp2
  go_ret
  exact ⟨ret_bool (by first | rfl | (simp; done) | (simp; omega)), below3 (below3 (below3 (below3 (below3 (below3 (below3 (below3 (HB1.out) HB2.out) HB3.out) HB4.out) HB5.out) HB6.out) HB7.out) HB8.out) HB9.out⟩

theorem three_any (a b c : Int) (w : World) (ha : Fit a) (hb : Fit b) (hc : Fit c) : Calls Try.prog 8 #[.int .i64 a, .int .i64 b, .int .i64 c] w (TrueAns w) := by
  by_cases fx : Fit (a + b)
  rotate_left
  · exact three_no a b c w ha hb hc fx
  by_cases fy : Fit (a + b + c)
  · by_cases fp : Fit (b + c)
    · by_cases fm : Fit ((a + b) * c)
      rotate_left
      · exact three_all_i a b c w ha hb hc fx fy fp fm
      by_cases fn : Fit (a * c)
      rotate_left
      · exact three_all_j a b c w ha hb hc fx fy fp fm fn
      by_cases fo : Fit (b * c)
      rotate_left
      · exact three_all_k a b c w ha hb hc fx fy fp fm fn fo
      exact three_all_all a b c w ha hb hc fx fy fp fm fn fo
    · by_cases fm : Fit ((a + b) * c)
      rotate_left
      · exact three_g_i a b c w ha hb hc fx fy fp fm
      by_cases fn : Fit (a * c)
      rotate_left
      · exact three_g_j a b c w ha hb hc fx fy fp fm fn
      by_cases fo : Fit (b * c)
      rotate_left
      · exact three_g_k a b c w ha hb hc fx fy fp fm fn fo
      exact three_g_all a b c w ha hb hc fx fy fp fm fn fo
  · by_cases fm : Fit ((a + b) * c)
    rotate_left
    · exact three_f_i a b c w ha hb hc fx fy fm
    by_cases fn : Fit (a * c)
    rotate_left
    · exact three_f_j a b c w ha hb hc fx fy fm fn
    by_cases fo : Fit (b * c)
    rotate_left
    · exact three_f_k a b c w ha hb hc fx fy fm fn fo
    exact three_f_all a b c w ha hb hc fx fy fm fn fo

end Go.Proofs.Ytaaffpeppdinhaa

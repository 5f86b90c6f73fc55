/-
  The walk of the law CalcOrder of layer 2, one way that the first two fractions lie.
-/
import Derived.Test.YtaaffpeppdinhaaOrder0
namespace Go.Proofs.Ytaaffpeppdinhaa
open Go.RowKit

theorem order_g_ok_n (a b c d m n p q : Int) (w : World) (fa : Fit a) (fb : Fit b) (fc : Fit c) (fd : Fit d) (fm : Fit m) (fn : Fit n) (h1 : 1 ≤ b) (h2 : 1 ≤ d) (sx : sgn (a * d) (c * b) = 1) (sy : sgn (c * b) (a * d) = -1) (h3 : n < 1) (ge : gapE a b c d = 0) (gp : dist (a * d) (c * b) = p) (p1 : 1 ≤ p) (p2 : (p == 0) = false) (gq : b * d = q) (q1 : 1 ≤ q) :
    Calls Try.prog 7 #[.int .i64 a, .int .i64 b, .int .i64 c, .int .i64 d, .int .i64 m, .int .i64 n] w (TrueAns w) := by
  have FA := Lib.hid fa
  have FB := Lib.hid fb
  have FC := Lib.hid fc
  have FD := Lib.hid fd
  have FM := Lib.hid fm
  have FN := Lib.hid fn
  have SX := Lib.hid sx
  have SY := Lib.hid sy
  have GE := Lib.hid ge
  have GP := Lib.hid gp
  have GQ := Lib.hid gq
  clear fa fb fc fd fm fn sx sy ge gp gq
  go_enter Try.func7, Try.ntmps7
  go_wp2_with fail
  refine (live_any _).mono ?_
  rintro e w1 ⟨rfl, hb1⟩
  have HB1 := Lib.hid hb1
  clear hb1
  go_wp2_with fail
  refine (cmp_as a b c d (1) _ FA.out FB.out FC.out FD.out (by omega) SX.out).mono ?_
  rintro e w2 ⟨rfl, hb2⟩
  have HB2 := Lib.hid hb2
  clear hb2
  go_wp2_with fail
  refine (cmp_as c d a b (-1) _ FC.out FD.out FA.out FB.out (by omega) SY.out).mono ?_
  rintro e w3 ⟨rfl, hb3⟩
  have HB3 := Lib.hid hb3
  clear hb3
  go_wp2_with fail
  refine (cmp_no c d m n _ FC.out FD.out FM.out FN.out (.inr (by omega))).mono ?_
  rintro e w4 ⟨rfl, hb4⟩
  have HB4 := Lib.hid hb4
  clear hb4
  go_wp2_with fail
  refine (cmp_no a b m n _ FA.out FB.out FM.out FN.out (.inr (by omega))).mono ?_
  rintro e w5 ⟨rfl, hb5⟩
  have HB5 := Lib.hid hb5
  clear hb5
  go_wp2_with fail
  refine (gap_as a b c d p q _ FA.out FB.out FC.out FD.out (by omega) (by omega) GE.out GP.out GQ.out).mono ?_
  rintro e w6 ⟨rfl, hb6⟩
  have HB6 := Lib.hid hb6
  clear hb6
  go_wp2
  go_ret
  exact ⟨ret_bool (by first | rfl | (simp; done) | (simp; omega)), below3 (below3 (below3 (below3 (below3 (HB1.out) HB2.out) HB3.out) HB4.out) HB5.out) HB6.out⟩

theorem order_g_ok_ll (a b c d m n p q : Int) (w : World) (fa : Fit a) (fb : Fit b) (fc : Fit c) (fd : Fit d) (fm : Fit m) (fn : Fit n) (h1 : 1 ≤ b) (h2 : 1 ≤ d) (sx : sgn (a * d) (c * b) = 1) (sy : sgn (c * b) (a * d) = -1) (h3 : 1 ≤ n) (sz : sgn (c * n) (m * d) = -1) (sw : sgn (a * n) (m * b) = -1) (ge : gapE a b c d = 0) (gp : dist (a * d) (c * b) = p) (p1 : 1 ≤ p) (p2 : (p == 0) = false) (gq : b * d = q) (q1 : 1 ≤ q) :
    Calls Try.prog 7 #[.int .i64 a, .int .i64 b, .int .i64 c, .int .i64 d, .int .i64 m, .int .i64 n] w (TrueAns w) := by
  have FA := Lib.hid fa
  have FB := Lib.hid fb
  have FC := Lib.hid fc
  have FD := Lib.hid fd
  have FM := Lib.hid fm
  have FN := Lib.hid fn
  have SX := Lib.hid sx
  have SY := Lib.hid sy
  have SZ := Lib.hid sz
  have SW := Lib.hid sw
  have GE := Lib.hid ge
  have GP := Lib.hid gp
  have GQ := Lib.hid gq
  clear fa fb fc fd fm fn sx sy sz sw ge gp gq
  go_enter Try.func7, Try.ntmps7
  go_wp2_with fail
  refine (live_any _).mono ?_
  rintro e w1 ⟨rfl, hb1⟩
  have HB1 := Lib.hid hb1
  clear hb1
  go_wp2_with fail
  refine (cmp_as a b c d (1) _ FA.out FB.out FC.out FD.out (by omega) SX.out).mono ?_
  rintro e w2 ⟨rfl, hb2⟩
  have HB2 := Lib.hid hb2
  clear hb2
  go_wp2_with fail
  refine (cmp_as c d a b (-1) _ FC.out FD.out FA.out FB.out (by omega) SY.out).mono ?_
  rintro e w3 ⟨rfl, hb3⟩
  have HB3 := Lib.hid hb3
  clear hb3
  go_wp2_with fail
  refine (cmp_as c d m n (-1) _ FC.out FD.out FM.out FN.out (by omega) SZ.out).mono ?_
  rintro e w4 ⟨rfl, hb4⟩
  have HB4 := Lib.hid hb4
  clear hb4
  go_wp2_with fail
  refine (cmp_as a b m n (-1) _ FA.out FB.out FM.out FN.out (by omega) SW.out).mono ?_
  rintro e w5 ⟨rfl, hb5⟩
  have HB5 := Lib.hid hb5
  clear hb5
  go_wp2_with fail
  refine (gap_as a b c d p q _ FA.out FB.out FC.out FD.out (by omega) (by omega) GE.out GP.out GQ.out).mono ?_
  rintro e w6 ⟨rfl, hb6⟩
  have HB6 := Lib.hid hb6
  clear hb6
  go_wp2
  go_ret
  exact ⟨ret_bool (by first | rfl | (simp; done) | (simp; omega)), below3 (below3 (below3 (below3 (below3 (HB1.out) HB2.out) HB3.out) HB4.out) HB5.out) HB6.out⟩

theorem order_g_ok_le (a b c d m n p q : Int) (w : World) (fa : Fit a) (fb : Fit b) (fc : Fit c) (fd : Fit d) (fm : Fit m) (fn : Fit n) (h1 : 1 ≤ b) (h2 : 1 ≤ d) (sx : sgn (a * d) (c * b) = 1) (sy : sgn (c * b) (a * d) = -1) (h3 : 1 ≤ n) (sz : sgn (c * n) (m * d) = -1) (sw : sgn (a * n) (m * b) = 0) (ge : gapE a b c d = 0) (gp : dist (a * d) (c * b) = p) (p1 : 1 ≤ p) (p2 : (p == 0) = false) (gq : b * d = q) (q1 : 1 ≤ q) :
    Calls Try.prog 7 #[.int .i64 a, .int .i64 b, .int .i64 c, .int .i64 d, .int .i64 m, .int .i64 n] w (TrueAns w) := by
  have FA := Lib.hid fa
  have FB := Lib.hid fb
  have FC := Lib.hid fc
  have FD := Lib.hid fd
  have FM := Lib.hid fm
  have FN := Lib.hid fn
  have SX := Lib.hid sx
  have SY := Lib.hid sy
  have SZ := Lib.hid sz
  have SW := Lib.hid sw
  have GE := Lib.hid ge
  have GP := Lib.hid gp
  have GQ := Lib.hid gq
  clear fa fb fc fd fm fn sx sy sz sw ge gp gq
  go_enter Try.func7, Try.ntmps7
  go_wp2_with fail
  refine (live_any _).mono ?_
  rintro e w1 ⟨rfl, hb1⟩
  have HB1 := Lib.hid hb1
  clear hb1
  go_wp2_with fail
  refine (cmp_as a b c d (1) _ FA.out FB.out FC.out FD.out (by omega) SX.out).mono ?_
  rintro e w2 ⟨rfl, hb2⟩
  have HB2 := Lib.hid hb2
  clear hb2
  go_wp2_with fail
  refine (cmp_as c d a b (-1) _ FC.out FD.out FA.out FB.out (by omega) SY.out).mono ?_
  rintro e w3 ⟨rfl, hb3⟩
  have HB3 := Lib.hid hb3
  clear hb3
  go_wp2_with fail
  refine (cmp_as c d m n (-1) _ FC.out FD.out FM.out FN.out (by omega) SZ.out).mono ?_
  rintro e w4 ⟨rfl, hb4⟩
  have HB4 := Lib.hid hb4
  clear hb4
  go_wp2_with fail
  refine (cmp_as a b m n (0) _ FA.out FB.out FM.out FN.out (by omega) SW.out).mono ?_
  rintro e w5 ⟨rfl, hb5⟩
  have HB5 := Lib.hid hb5
  clear hb5
  go_wp2_with fail
  refine (gap_as a b c d p q _ FA.out FB.out FC.out FD.out (by omega) (by omega) GE.out GP.out GQ.out).mono ?_
  rintro e w6 ⟨rfl, hb6⟩
  have HB6 := Lib.hid hb6
  clear hb6
  go_wp2
  go_ret
  exact ⟨ret_bool (by first | rfl | (simp; done) | (simp; omega)), below3 (below3 (below3 (below3 (below3 (HB1.out) HB2.out) HB3.out) HB4.out) HB5.out) HB6.out⟩

theorem order_g_ok_lg (a b c d m n p q : Int) (w : World) (fa : Fit a) (fb : Fit b) (fc : Fit c) (fd : Fit d) (fm : Fit m) (fn : Fit n) (h1 : 1 ≤ b) (h2 : 1 ≤ d) (sx : sgn (a * d) (c * b) = 1) (sy : sgn (c * b) (a * d) = -1) (h3 : 1 ≤ n) (sz : sgn (c * n) (m * d) = -1) (sw : sgn (a * n) (m * b) = 1) (ge : gapE a b c d = 0) (gp : dist (a * d) (c * b) = p) (p1 : 1 ≤ p) (p2 : (p == 0) = false) (gq : b * d = q) (q1 : 1 ≤ q) :
    Calls Try.prog 7 #[.int .i64 a, .int .i64 b, .int .i64 c, .int .i64 d, .int .i64 m, .int .i64 n] w (TrueAns w) := by
  have FA := Lib.hid fa
  have FB := Lib.hid fb
  have FC := Lib.hid fc
  have FD := Lib.hid fd
  have FM := Lib.hid fm
  have FN := Lib.hid fn
  have SX := Lib.hid sx
  have SY := Lib.hid sy
  have SZ := Lib.hid sz
  have SW := Lib.hid sw
  have GE := Lib.hid ge
  have GP := Lib.hid gp
  have GQ := Lib.hid gq
  clear fa fb fc fd fm fn sx sy sz sw ge gp gq
  go_enter Try.func7, Try.ntmps7
  go_wp2_with fail
  refine (live_any _).mono ?_
  rintro e w1 ⟨rfl, hb1⟩
  have HB1 := Lib.hid hb1
  clear hb1
  go_wp2_with fail
  refine (cmp_as a b c d (1) _ FA.out FB.out FC.out FD.out (by omega) SX.out).mono ?_
  rintro e w2 ⟨rfl, hb2⟩
  have HB2 := Lib.hid hb2
  clear hb2
  go_wp2_with fail
  refine (cmp_as c d a b (-1) _ FC.out FD.out FA.out FB.out (by omega) SY.out).mono ?_
  rintro e w3 ⟨rfl, hb3⟩
  have HB3 := Lib.hid hb3
  clear hb3
  go_wp2_with fail
  refine (cmp_as c d m n (-1) _ FC.out FD.out FM.out FN.out (by omega) SZ.out).mono ?_
  rintro e w4 ⟨rfl, hb4⟩
  have HB4 := Lib.hid hb4
  clear hb4
  go_wp2_with fail
  refine (cmp_as a b m n (1) _ FA.out FB.out FM.out FN.out (by omega) SW.out).mono ?_
  rintro e w5 ⟨rfl, hb5⟩
  have HB5 := Lib.hid hb5
  clear hb5
  go_wp2_with fail
  refine (gap_as a b c d p q _ FA.out FB.out FC.out FD.out (by omega) (by omega) GE.out GP.out GQ.out).mono ?_
  rintro e w6 ⟨rfl, hb6⟩
  have HB6 := Lib.hid hb6
  clear hb6
  go_wp2
  go_ret
  exact ⟨ret_bool (by first | rfl | (simp; done) | (simp; omega)), below3 (below3 (below3 (below3 (below3 (HB1.out) HB2.out) HB3.out) HB4.out) HB5.out) HB6.out⟩

theorem order_g_ok_eg (a b c d m n p q : Int) (w : World) (fa : Fit a) (fb : Fit b) (fc : Fit c) (fd : Fit d) (fm : Fit m) (fn : Fit n) (h1 : 1 ≤ b) (h2 : 1 ≤ d) (sx : sgn (a * d) (c * b) = 1) (sy : sgn (c * b) (a * d) = -1) (h3 : 1 ≤ n) (sz : sgn (c * n) (m * d) = 0) (sw : sgn (a * n) (m * b) = 1) (ge : gapE a b c d = 0) (gp : dist (a * d) (c * b) = p) (p1 : 1 ≤ p) (p2 : (p == 0) = false) (gq : b * d = q) (q1 : 1 ≤ q) :
    Calls Try.prog 7 #[.int .i64 a, .int .i64 b, .int .i64 c, .int .i64 d, .int .i64 m, .int .i64 n] w (TrueAns w) := by
  have FA := Lib.hid fa
  have FB := Lib.hid fb
  have FC := Lib.hid fc
  have FD := Lib.hid fd
  have FM := Lib.hid fm
  have FN := Lib.hid fn
  have SX := Lib.hid sx
  have SY := Lib.hid sy
  have SZ := Lib.hid sz
  have SW := Lib.hid sw
  have GE := Lib.hid ge
  have GP := Lib.hid gp
  have GQ := Lib.hid gq
  clear fa fb fc fd fm fn sx sy sz sw ge gp gq
  go_enter Try.func7, Try.ntmps7
  go_wp2_with fail
  refine (live_any _).mono ?_
  rintro e w1 ⟨rfl, hb1⟩
  have HB1 := Lib.hid hb1
  clear hb1
  go_wp2_with fail
  refine (cmp_as a b c d (1) _ FA.out FB.out FC.out FD.out (by omega) SX.out).mono ?_
  rintro e w2 ⟨rfl, hb2⟩
  have HB2 := Lib.hid hb2
  clear hb2
  go_wp2_with fail
  refine (cmp_as c d a b (-1) _ FC.out FD.out FA.out FB.out (by omega) SY.out).mono ?_
  rintro e w3 ⟨rfl, hb3⟩
  have HB3 := Lib.hid hb3
  clear hb3
  go_wp2_with fail
  refine (cmp_as c d m n (0) _ FC.out FD.out FM.out FN.out (by omega) SZ.out).mono ?_
  rintro e w4 ⟨rfl, hb4⟩
  have HB4 := Lib.hid hb4
  clear hb4
  go_wp2_with fail
  refine (cmp_as a b m n (1) _ FA.out FB.out FM.out FN.out (by omega) SW.out).mono ?_
  rintro e w5 ⟨rfl, hb5⟩
  have HB5 := Lib.hid hb5
  clear hb5
  go_wp2_with fail
  refine (gap_as a b c d p q _ FA.out FB.out FC.out FD.out (by omega) (by omega) GE.out GP.out GQ.out).mono ?_
  rintro e w6 ⟨rfl, hb6⟩
  have HB6 := Lib.hid hb6
  clear hb6
  go_wp2
  go_ret
  exact ⟨ret_bool (by first | rfl | (simp; done) | (simp; omega)), below3 (below3 (below3 (below3 (below3 (HB1.out) HB2.out) HB3.out) HB4.out) HB5.out) HB6.out⟩

theorem order_g_ok_gg (a b c d m n p q : Int) (w : World) (fa : Fit a) (fb : Fit b) (fc : Fit c) (fd : Fit d) (fm : Fit m) (fn : Fit n) (h1 : 1 ≤ b) (h2 : 1 ≤ d) (sx : sgn (a * d) (c * b) = 1) (sy : sgn (c * b) (a * d) = -1) (h3 : 1 ≤ n) (sz : sgn (c * n) (m * d) = 1) (sw : sgn (a * n) (m * b) = 1) (ge : gapE a b c d = 0) (gp : dist (a * d) (c * b) = p) (p1 : 1 ≤ p) (p2 : (p == 0) = false) (gq : b * d = q) (q1 : 1 ≤ q) :
    Calls Try.prog 7 #[.int .i64 a, .int .i64 b, .int .i64 c, .int .i64 d, .int .i64 m, .int .i64 n] w (TrueAns w) := by
  have FA := Lib.hid fa
  have FB := Lib.hid fb
  have FC := Lib.hid fc
  have FD := Lib.hid fd
  have FM := Lib.hid fm
  have FN := Lib.hid fn
  have SX := Lib.hid sx
  have SY := Lib.hid sy
  have SZ := Lib.hid sz
  have SW := Lib.hid sw
  have GE := Lib.hid ge
  have GP := Lib.hid gp
  have GQ := Lib.hid gq
  clear fa fb fc fd fm fn sx sy sz sw ge gp gq
  go_enter Try.func7, Try.ntmps7
  go_wp2_with fail
  refine (live_any _).mono ?_
  rintro e w1 ⟨rfl, hb1⟩
  have HB1 := Lib.hid hb1
  clear hb1
  go_wp2_with fail
  refine (cmp_as a b c d (1) _ FA.out FB.out FC.out FD.out (by omega) SX.out).mono ?_
  rintro e w2 ⟨rfl, hb2⟩
  have HB2 := Lib.hid hb2
  clear hb2
  go_wp2_with fail
  refine (cmp_as c d a b (-1) _ FC.out FD.out FA.out FB.out (by omega) SY.out).mono ?_
  rintro e w3 ⟨rfl, hb3⟩
  have HB3 := Lib.hid hb3
  clear hb3
  go_wp2_with fail
  refine (cmp_as c d m n (1) _ FC.out FD.out FM.out FN.out (by omega) SZ.out).mono ?_
  rintro e w4 ⟨rfl, hb4⟩
  have HB4 := Lib.hid hb4
  clear hb4
  go_wp2_with fail
  refine (cmp_as a b m n (1) _ FA.out FB.out FM.out FN.out (by omega) SW.out).mono ?_
  rintro e w5 ⟨rfl, hb5⟩
  have HB5 := Lib.hid hb5
  clear hb5
  go_wp2_with fail
  refine (gap_as a b c d p q _ FA.out FB.out FC.out FD.out (by omega) (by omega) GE.out GP.out GQ.out).mono ?_
  rintro e w6 ⟨rfl, hb6⟩
  have HB6 := Lib.hid hb6
  clear hb6
  go_wp2
  go_ret
  exact ⟨ret_bool (by first | rfl | (simp; done) | (simp; omega)), below3 (below3 (below3 (below3 (below3 (HB1.out) HB2.out) HB3.out) HB4.out) HB5.out) HB6.out⟩

theorem order_g_no_n (a b c d m n : Int) (w : World) (fa : Fit a) (fb : Fit b) (fc : Fit c) (fd : Fit d) (fm : Fit m) (fn : Fit n) (h1 : 1 ≤ b) (h2 : 1 ≤ d) (sx : sgn (a * d) (c * b) = 1) (sy : sgn (c * b) (a * d) = -1) (h3 : n < 1) (ge : gapE a b c d = 4) :
    Calls Try.prog 7 #[.int .i64 a, .int .i64 b, .int .i64 c, .int .i64 d, .int .i64 m, .int .i64 n] w (TrueAns w) := by
  have FA := Lib.hid fa
  have FB := Lib.hid fb
  have FC := Lib.hid fc
  have FD := Lib.hid fd
  have FM := Lib.hid fm
  have FN := Lib.hid fn
  have SX := Lib.hid sx
  have SY := Lib.hid sy
  have GE := Lib.hid ge
  clear fa fb fc fd fm fn sx sy ge
  go_enter Try.func7, Try.ntmps7
  go_wp2_with fail
  refine (live_any _).mono ?_
  rintro e w1 ⟨rfl, hb1⟩
  have HB1 := Lib.hid hb1
  clear hb1
  go_wp2_with fail
  refine (cmp_as a b c d (1) _ FA.out FB.out FC.out FD.out (by omega) SX.out).mono ?_
  rintro e w2 ⟨rfl, hb2⟩
  have HB2 := Lib.hid hb2
  clear hb2
  go_wp2_with fail
  refine (cmp_as c d a b (-1) _ FC.out FD.out FA.out FB.out (by omega) SY.out).mono ?_
  rintro e w3 ⟨rfl, hb3⟩
  have HB3 := Lib.hid hb3
  clear hb3
  go_wp2_with fail
  refine (cmp_no c d m n _ FC.out FD.out FM.out FN.out (.inr (by omega))).mono ?_
  rintro e w4 ⟨rfl, hb4⟩
  have HB4 := Lib.hid hb4
  clear hb4
  go_wp2_with fail
  refine (cmp_no a b m n _ FA.out FB.out FM.out FN.out (.inr (by omega))).mono ?_
  rintro e w5 ⟨rfl, hb5⟩
  have HB5 := Lib.hid hb5
  clear hb5
  go_wp2_with fail
  refine (gap_no a b c d _ FA.out FB.out FC.out FD.out (by omega) (by omega) GE.out).mono ?_
  rintro e w6 ⟨rfl, hb6⟩
  have HB6 := Lib.hid hb6
  clear hb6
  go_wp2
  go_ret
  exact ⟨ret_bool (by first | rfl | (simp; done) | (simp; omega)), below3 (below3 (below3 (below3 (below3 (HB1.out) HB2.out) HB3.out) HB4.out) HB5.out) HB6.out⟩

theorem order_g_no_ll (a b c d m n : Int) (w : World) (fa : Fit a) (fb : Fit b) (fc : Fit c) (fd : Fit d) (fm : Fit m) (fn : Fit n) (h1 : 1 ≤ b) (h2 : 1 ≤ d) (sx : sgn (a * d) (c * b) = 1) (sy : sgn (c * b) (a * d) = -1) (h3 : 1 ≤ n) (sz : sgn (c * n) (m * d) = -1) (sw : sgn (a * n) (m * b) = -1) (ge : gapE a b c d = 4) :
    Calls Try.prog 7 #[.int .i64 a, .int .i64 b, .int .i64 c, .int .i64 d, .int .i64 m, .int .i64 n] w (TrueAns w) := by
  have FA := Lib.hid fa
  have FB := Lib.hid fb
  have FC := Lib.hid fc
  have FD := Lib.hid fd
  have FM := Lib.hid fm
  have FN := Lib.hid fn
  have SX := Lib.hid sx
  have SY := Lib.hid sy
  have SZ := Lib.hid sz
  have SW := Lib.hid sw
  have GE := Lib.hid ge
  clear fa fb fc fd fm fn sx sy sz sw ge
  go_enter Try.func7, Try.ntmps7
  go_wp2_with fail
  refine (live_any _).mono ?_
  rintro e w1 ⟨rfl, hb1⟩
  have HB1 := Lib.hid hb1
  clear hb1
  go_wp2_with fail
  refine (cmp_as a b c d (1) _ FA.out FB.out FC.out FD.out (by omega) SX.out).mono ?_
  rintro e w2 ⟨rfl, hb2⟩
  have HB2 := Lib.hid hb2
  clear hb2
  go_wp2_with fail
  refine (cmp_as c d a b (-1) _ FC.out FD.out FA.out FB.out (by omega) SY.out).mono ?_
  rintro e w3 ⟨rfl, hb3⟩
  have HB3 := Lib.hid hb3
  clear hb3
  go_wp2_with fail
  refine (cmp_as c d m n (-1) _ FC.out FD.out FM.out FN.out (by omega) SZ.out).mono ?_
  rintro e w4 ⟨rfl, hb4⟩
  have HB4 := Lib.hid hb4
  clear hb4
  go_wp2_with fail
  refine (cmp_as a b m n (-1) _ FA.out FB.out FM.out FN.out (by omega) SW.out).mono ?_
  rintro e w5 ⟨rfl, hb5⟩
  have HB5 := Lib.hid hb5
  clear hb5
  go_wp2_with fail
  refine (gap_no a b c d _ FA.out FB.out FC.out FD.out (by omega) (by omega) GE.out).mono ?_
  rintro e w6 ⟨rfl, hb6⟩
  have HB6 := Lib.hid hb6
  clear hb6
  go_wp2
  go_ret
  exact ⟨ret_bool (by first | rfl | (simp; done) | (simp; omega)), below3 (below3 (below3 (below3 (below3 (HB1.out) HB2.out) HB3.out) HB4.out) HB5.out) HB6.out⟩

theorem order_g_no_le (a b c d m n : Int) (w : World) (fa : Fit a) (fb : Fit b) (fc : Fit c) (fd : Fit d) (fm : Fit m) (fn : Fit n) (h1 : 1 ≤ b) (h2 : 1 ≤ d) (sx : sgn (a * d) (c * b) = 1) (sy : sgn (c * b) (a * d) = -1) (h3 : 1 ≤ n) (sz : sgn (c * n) (m * d) = -1) (sw : sgn (a * n) (m * b) = 0) (ge : gapE a b c d = 4) :
    Calls Try.prog 7 #[.int .i64 a, .int .i64 b, .int .i64 c, .int .i64 d, .int .i64 m, .int .i64 n] w (TrueAns w) := by
  have FA := Lib.hid fa
  have FB := Lib.hid fb
  have FC := Lib.hid fc
  have FD := Lib.hid fd
  have FM := Lib.hid fm
  have FN := Lib.hid fn
  have SX := Lib.hid sx
  have SY := Lib.hid sy
  have SZ := Lib.hid sz
  have SW := Lib.hid sw
  have GE := Lib.hid ge
  clear fa fb fc fd fm fn sx sy sz sw ge
  go_enter Try.func7, Try.ntmps7
  go_wp2_with fail
  refine (live_any _).mono ?_
  rintro e w1 ⟨rfl, hb1⟩
  have HB1 := Lib.hid hb1
  clear hb1
  go_wp2_with fail
  refine (cmp_as a b c d (1) _ FA.out FB.out FC.out FD.out (by omega) SX.out).mono ?_
  rintro e w2 ⟨rfl, hb2⟩
  have HB2 := Lib.hid hb2
  clear hb2
  go_wp2_with fail
  refine (cmp_as c d a b (-1) _ FC.out FD.out FA.out FB.out (by omega) SY.out).mono ?_
  rintro e w3 ⟨rfl, hb3⟩
  have HB3 := Lib.hid hb3
  clear hb3
  go_wp2_with fail
  refine (cmp_as c d m n (-1) _ FC.out FD.out FM.out FN.out (by omega) SZ.out).mono ?_
  rintro e w4 ⟨rfl, hb4⟩
  have HB4 := Lib.hid hb4
  clear hb4
  go_wp2_with fail
  refine (cmp_as a b m n (0) _ FA.out FB.out FM.out FN.out (by omega) SW.out).mono ?_
  rintro e w5 ⟨rfl, hb5⟩
  have HB5 := Lib.hid hb5
  clear hb5
  go_wp2_with fail
  refine (gap_no a b c d _ FA.out FB.out FC.out FD.out (by omega) (by omega) GE.out).mono ?_
  rintro e w6 ⟨rfl, hb6⟩
  have HB6 := Lib.hid hb6
  clear hb6
  go_wp2
  go_ret
  exact ⟨ret_bool (by first | rfl | (simp; done) | (simp; omega)), below3 (below3 (below3 (below3 (below3 (HB1.out) HB2.out) HB3.out) HB4.out) HB5.out) HB6.out⟩

theorem order_g_no_lg (a b c d m n : Int) (w : World) (fa : Fit a) (fb : Fit b) (fc : Fit c) (fd : Fit d) (fm : Fit m) (fn : Fit n) (h1 : 1 ≤ b) (h2 : 1 ≤ d) (sx : sgn (a * d) (c * b) = 1) (sy : sgn (c * b) (a * d) = -1) (h3 : 1 ≤ n) (sz : sgn (c * n) (m * d) = -1) (sw : sgn (a * n) (m * b) = 1) (ge : gapE a b c d = 4) :
    Calls Try.prog 7 #[.int .i64 a, .int .i64 b, .int .i64 c, .int .i64 d, .int .i64 m, .int .i64 n] w (TrueAns w) := by
  have FA := Lib.hid fa
  have FB := Lib.hid fb
  have FC := Lib.hid fc
  have FD := Lib.hid fd
  have FM := Lib.hid fm
  have FN := Lib.hid fn
  have SX := Lib.hid sx
  have SY := Lib.hid sy
  have SZ := Lib.hid sz
  have SW := Lib.hid sw
  have GE := Lib.hid ge
  clear fa fb fc fd fm fn sx sy sz sw ge
  go_enter Try.func7, Try.ntmps7
  go_wp2_with fail
  refine (live_any _).mono ?_
  rintro e w1 ⟨rfl, hb1⟩
  have HB1 := Lib.hid hb1
  clear hb1
  go_wp2_with fail
  refine (cmp_as a b c d (1) _ FA.out FB.out FC.out FD.out (by omega) SX.out).mono ?_
  rintro e w2 ⟨rfl, hb2⟩
  have HB2 := Lib.hid hb2
  clear hb2
  go_wp2_with fail
  refine (cmp_as c d a b (-1) _ FC.out FD.out FA.out FB.out (by omega) SY.out).mono ?_
  rintro e w3 ⟨rfl, hb3⟩
  have HB3 := Lib.hid hb3
  clear hb3
  go_wp2_with fail
  refine (cmp_as c d m n (-1) _ FC.out FD.out FM.out FN.out (by omega) SZ.out).mono ?_
  rintro e w4 ⟨rfl, hb4⟩
  have HB4 := Lib.hid hb4
  clear hb4
  go_wp2_with fail
  refine (cmp_as a b m n (1) _ FA.out FB.out FM.out FN.out (by omega) SW.out).mono ?_
  rintro e w5 ⟨rfl, hb5⟩
  have HB5 := Lib.hid hb5
  clear hb5
  go_wp2_with fail
  refine (gap_no a b c d _ FA.out FB.out FC.out FD.out (by omega) (by omega) GE.out).mono ?_
  rintro e w6 ⟨rfl, hb6⟩
  have HB6 := Lib.hid hb6
  clear hb6
  go_wp2
  go_ret
  exact ⟨ret_bool (by first | rfl | (simp; done) | (simp; omega)), below3 (below3 (below3 (below3 (below3 (HB1.out) HB2.out) HB3.out) HB4.out) HB5.out) HB6.out⟩

theorem order_g_no_eg (a b c d m n : Int) (w : World) (fa : Fit a) (fb : Fit b) (fc : Fit c) (fd : Fit d) (fm : Fit m) (fn : Fit n) (h1 : 1 ≤ b) (h2 : 1 ≤ d) (sx : sgn (a * d) (c * b) = 1) (sy : sgn (c * b) (a * d) = -1) (h3 : 1 ≤ n) (sz : sgn (c * n) (m * d) = 0) (sw : sgn (a * n) (m * b) = 1) (ge : gapE a b c d = 4) :
    Calls Try.prog 7 #[.int .i64 a, .int .i64 b, .int .i64 c, .int .i64 d, .int .i64 m, .int .i64 n] w (TrueAns w) := by
  have FA := Lib.hid fa
  have FB := Lib.hid fb
  have FC := Lib.hid fc
  have FD := Lib.hid fd
  have FM := Lib.hid fm
  have FN := Lib.hid fn
  have SX := Lib.hid sx
  have SY := Lib.hid sy
  have SZ := Lib.hid sz
  have SW := Lib.hid sw
  have GE := Lib.hid ge
  clear fa fb fc fd fm fn sx sy sz sw ge
  go_enter Try.func7, Try.ntmps7
  go_wp2_with fail
  refine (live_any _).mono ?_
  rintro e w1 ⟨rfl, hb1⟩
  have HB1 := Lib.hid hb1
  clear hb1
  go_wp2_with fail
  refine (cmp_as a b c d (1) _ FA.out FB.out FC.out FD.out (by omega) SX.out).mono ?_
  rintro e w2 ⟨rfl, hb2⟩
  have HB2 := Lib.hid hb2
  clear hb2
  go_wp2_with fail
  refine (cmp_as c d a b (-1) _ FC.out FD.out FA.out FB.out (by omega) SY.out).mono ?_
  rintro e w3 ⟨rfl, hb3⟩
  have HB3 := Lib.hid hb3
  clear hb3
  go_wp2_with fail
  refine (cmp_as c d m n (0) _ FC.out FD.out FM.out FN.out (by omega) SZ.out).mono ?_
  rintro e w4 ⟨rfl, hb4⟩
  have HB4 := Lib.hid hb4
  clear hb4
  go_wp2_with fail
  refine (cmp_as a b m n (1) _ FA.out FB.out FM.out FN.out (by omega) SW.out).mono ?_
  rintro e w5 ⟨rfl, hb5⟩
  have HB5 := Lib.hid hb5
  clear hb5
  go_wp2_with fail
  refine (gap_no a b c d _ FA.out FB.out FC.out FD.out (by omega) (by omega) GE.out).mono ?_
  rintro e w6 ⟨rfl, hb6⟩
  have HB6 := Lib.hid hb6
  clear hb6
  go_wp2
  go_ret
  exact ⟨ret_bool (by first | rfl | (simp; done) | (simp; omega)), below3 (below3 (below3 (below3 (below3 (HB1.out) HB2.out) HB3.out) HB4.out) HB5.out) HB6.out⟩

theorem order_g_no_gg (a b c d m n : Int) (w : World) (fa : Fit a) (fb : Fit b) (fc : Fit c) (fd : Fit d) (fm : Fit m) (fn : Fit n) (h1 : 1 ≤ b) (h2 : 1 ≤ d) (sx : sgn (a * d) (c * b) = 1) (sy : sgn (c * b) (a * d) = -1) (h3 : 1 ≤ n) (sz : sgn (c * n) (m * d) = 1) (sw : sgn (a * n) (m * b) = 1) (ge : gapE a b c d = 4) :
    Calls Try.prog 7 #[.int .i64 a, .int .i64 b, .int .i64 c, .int .i64 d, .int .i64 m, .int .i64 n] w (TrueAns w) := by
  have FA := Lib.hid fa
  have FB := Lib.hid fb
  have FC := Lib.hid fc
  have FD := Lib.hid fd
  have FM := Lib.hid fm
  have FN := Lib.hid fn
  have SX := Lib.hid sx
  have SY := Lib.hid sy
  have SZ := Lib.hid sz
  have SW := Lib.hid sw
  have GE := Lib.hid ge
  clear fa fb fc fd fm fn sx sy sz sw ge
  go_enter Try.func7, Try.ntmps7
  go_wp2_with fail
  refine (live_any _).mono ?_
  rintro e w1 ⟨rfl, hb1⟩
  have HB1 := Lib.hid hb1
  clear hb1
  go_wp2_with fail
  refine (cmp_as a b c d (1) _ FA.out FB.out FC.out FD.out (by omega) SX.out).mono ?_
  rintro e w2 ⟨rfl, hb2⟩
  have HB2 := Lib.hid hb2
  clear hb2
  go_wp2_with fail
  refine (cmp_as c d a b (-1) _ FC.out FD.out FA.out FB.out (by omega) SY.out).mono ?_
  rintro e w3 ⟨rfl, hb3⟩
  have HB3 := Lib.hid hb3
  clear hb3
  go_wp2_with fail
  refine (cmp_as c d m n (1) _ FC.out FD.out FM.out FN.out (by omega) SZ.out).mono ?_
  rintro e w4 ⟨rfl, hb4⟩
  have HB4 := Lib.hid hb4
  clear hb4
  go_wp2_with fail
  refine (cmp_as a b m n (1) _ FA.out FB.out FM.out FN.out (by omega) SW.out).mono ?_
  rintro e w5 ⟨rfl, hb5⟩
  have HB5 := Lib.hid hb5
  clear hb5
  go_wp2_with fail
  refine (gap_no a b c d _ FA.out FB.out FC.out FD.out (by omega) (by omega) GE.out).mono ?_
  rintro e w6 ⟨rfl, hb6⟩
  have HB6 := Lib.hid hb6
  clear hb6
  go_wp2
  go_ret
  exact ⟨ret_bool (by first | rfl | (simp; done) | (simp; omega)), below3 (below3 (below3 (below3 (below3 (HB1.out) HB2.out) HB3.out) HB4.out) HB5.out) HB6.out⟩

end Go.Proofs.Ytaaffpeppdinhaa

/-
  The walk of the law CalcDoes of layer 2: any two numbers' sum, difference and product are the document's.
-/
import Derived.Test.YtaaffpeppdinhaaRefs
namespace Go.Proofs.Ytaaffpeppdinhaa
open Go.RowKit

theorem rminus_sub (a b : Int) (w : World) (ha : Fit a) (hb : Fit b) :
    Calls Try.prog 15 #[.int .i64 a, .int .i64 b] w (RetB (.tuple #[.int .i64 (tz (a - b)), .int .i64 (te (a - b))]) w) := by
  rw [Int.sub_eq_add_neg]
  exact rminus_any a b w ha hb

theorem does_any (a b : Int) (w : World) (ha : Fit a) (hb : Fit b) :
    Calls Try.prog 3 #[.int .i64 a, .int .i64 b] w (TrueAns w) := by
  have HA := Lib.hid ha
  have HB := Lib.hid hb
  clear ha hb
  go_enter Try.func3, Try.ntmps3
  go_wp2_with fail
  refine (live_any _).mono ?_
  rintro e w1 ⟨rfl, hb1⟩
  have HB1 := Lib.hid hb1
  clear hb1
  go_wp2_with fail
  refine (add_any a b _ HA.out HB.out).mono ?_
  rintro e w2 ⟨rfl, hb2⟩
  have HB2 := Lib.hid hb2
  clear hb2
  go_wp2_with fail
  refine (rsum_any a b _ HA.out HB.out).mono ?_
  rintro e w3 ⟨rfl, hb3⟩
  have HB3 := Lib.hid hb3
  clear hb3
  go_wp2_with fail
  refine (sub_any a b _ HA.out HB.out).mono ?_
  rintro e w4 ⟨rfl, hb4⟩
  have HB4 := Lib.hid hb4
  clear hb4
  go_wp2_with fail
  refine (rminus_sub a b _ HA.out HB.out).mono ?_
  rintro e w5 ⟨rfl, hb5⟩
  have HB5 := Lib.hid hb5
  clear hb5
  go_wp2_with fail
  refine (mul_any a b _ HA.out HB.out).mono ?_
  rintro e w6 ⟨rfl, hb6⟩
  have HB6 := Lib.hid hb6
  clear hb6
  go_wp2_with fail
  refine (rproduct_any a b _ HA.out HB.out).mono ?_
  rintro e w7 ⟨rfl, hb7⟩
  have HB7 := Lib.hid hb7
  clear hb7
  go_wp2
  go_ret
  exact ⟨ret_bool (by first | rfl | (simp; done) | (simp; omega)), below3 (below3 (below3 (below3 (below3 (below3 (HB1.out) HB2.out) HB3.out) HB4.out) HB5.out) HB6.out) HB7.out⟩

end Go.Proofs.Ytaaffpeppdinhaa

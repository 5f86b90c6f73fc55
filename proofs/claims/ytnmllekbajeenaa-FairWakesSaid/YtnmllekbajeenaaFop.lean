/-
  calc's Add, Sub and Mul.
-/
import Derived.Test.YtnmllekbajeenaaFwi
namespace Go.Proofs.Ytnmllekbajeenaa
open Go.RowKit

theorem mid_fit {a : Int} (h : Fit a) : Mid a := by unfold Fit at h; unfold Mid; omega

theorem add_any (a b : Int) (w : World) (ha : Fit a) (hb : Fit b) :
    Calls Try.prog 25 #[.int .i64 a, .int .i64 b] w (RetB (.tuple #[.int .i64 (tz (a + b)), .int .i64 (te (a + b))]) w) := by
  have HA := Lib.hid ha
  have HB := Lib.hid hb
  clear ha hb
  go_enter Try.func25, Try.ntmps25
  go_wp2_with fail
  refine (widen_any a _ HA.out).mono ?_
  rintro e w1 ⟨rfl, hb1⟩
  have HB1 := Lib.hid hb1
  clear hb1
  go_wp2_with fail
  refine (widen_any b _ HB.out).mono ?_
  rintro e w2 ⟨rfl, hb2⟩
  have HB2 := Lib.hid hb2
  clear hb2
  go_wp2_with fail
  refine (plus_any a b _ HA.out HB.out).mono ?_
  rintro e w3 ⟨rfl, hb3⟩
  have HB3 := Lib.hid hb3
  clear hb3
  go_wp2_with fail
  refine (narrow_any _ _).mono ?_
  rintro e w4 ⟨rfl, hb4⟩
  have HB4 := Lib.hid hb4
  clear hb4
  go_wp2
  go_ret2
  exact RetB.of rfl (below3 (below3 (below3 HB1.out HB2.out) HB3.out) HB4.out)

theorem sub_any (a b : Int) (w : World) (ha : Fit a) (hb : Fit b) :
    Calls Try.prog 28 #[.int .i64 a, .int .i64 b] w (RetB (.tuple #[.int .i64 (tz (a - b)), .int .i64 (te (a - b))]) w) := by
  have HA := Lib.hid ha
  have HB := Lib.hid hb
  clear ha hb
  go_enter Try.func28, Try.ntmps28
  go_wp2_with fail
  refine (widen_any a _ HA.out).mono ?_
  rintro e w1 ⟨rfl, hb1⟩
  have HB1 := Lib.hid hb1
  clear hb1
  go_wp2_with fail
  refine (widen_any b _ HB.out).mono ?_
  rintro e w2 ⟨rfl, hb2⟩
  have HB2 := Lib.hid hb2
  clear hb2
  go_wp2_with fail
  refine (minus_any a b _ (mid_fit HA.out) (mid_fit HB.out)).mono ?_
  rintro e w3 ⟨rfl, hb3⟩
  have HB3 := Lib.hid hb3
  clear hb3
  go_wp2_with fail
  refine (narrow_any _ _).mono ?_
  rintro e w4 ⟨rfl, hb4⟩
  have HB4 := Lib.hid hb4
  clear hb4
  go_wp2
  go_ret2
  exact RetB.of rfl (below3 (below3 (below3 HB1.out HB2.out) HB3.out) HB4.out)

theorem mul_any (a b : Int) (w : World) (ha : Fit a) (hb : Fit b) :
    Calls Try.prog 36 #[.int .i64 a, .int .i64 b] w (RetB (.tuple #[.int .i64 (tz (a * b)), .int .i64 (te (a * b))]) w) := by
  have HA := Lib.hid ha
  have HB := Lib.hid hb
  clear ha hb
  go_enter Try.func36, Try.ntmps36
  go_wp2_with fail
  refine (times_any a b _ HA.out HB.out).mono ?_
  rintro e w1 ⟨rfl, hb1⟩
  have HB1 := Lib.hid hb1
  clear hb1
  go_wp2_with fail
  refine (narrow_any _ _).mono ?_
  rintro e w2 ⟨rfl, hb2⟩
  have HB2 := Lib.hid hb2
  clear hb2
  go_wp2
  go_ret2
  exact RetB.of rfl (below3 HB1.out HB2.out)

end Go.Proofs.Ytnmllekbajeenaa

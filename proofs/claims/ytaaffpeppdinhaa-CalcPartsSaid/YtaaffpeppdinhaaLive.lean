/-
  The chapter's example, which each law of layer 2 plays first; and calc's calls with what they answer written out.
-/
import Derived.Test.YtaaffpeppdinhaaGap
namespace Go.Proofs.Ytaaffpeppdinhaa
open Go.RowKit

theorem add_ok (a b : Int) (w : World) (ha : Fit a) (hb : Fit b) (h : Fit (a + b)) :
    Calls Try.prog 12 #[.int .i64 a, .int .i64 b] w (RetB (.tuple #[.int .i64 (a + b), .int .i64 0]) w) := by
  have e1 : tz (a + b) = a + b := if_pos h
  have e2 : te (a + b) = 0 := if_pos h
  have := add_any a b w ha hb
  rwa [e1, e2] at this
theorem add_as (a b c : Int) (w : World) (ha : Fit a) (hb : Fit b) (h : Fit c) (hc : a + b = c) :
    Calls Try.prog 12 #[.int .i64 a, .int .i64 b] w (RetB (.tuple #[.int .i64 c, .int .i64 0]) w) := by
  subst hc
  exact add_ok a b w ha hb h
theorem add_no (a b : Int) (w : World) (ha : Fit a) (hb : Fit b) (h : ¬ Fit (a + b)) :
    Calls Try.prog 12 #[.int .i64 a, .int .i64 b] w (RetB (.tuple #[.int .i64 0, .int .i64 4]) w) := by
  have e1 : tz (a + b) = 0 := if_neg h
  have e2 : te (a + b) = 4 := if_neg h
  have := add_any a b w ha hb
  rwa [e1, e2] at this

theorem sub_ok (a b : Int) (w : World) (ha : Fit a) (hb : Fit b) (h : Fit (a - b)) :
    Calls Try.prog 14 #[.int .i64 a, .int .i64 b] w (RetB (.tuple #[.int .i64 (a - b), .int .i64 0]) w) := by
  have e1 : tz (a - b) = a - b := if_pos h
  have e2 : te (a - b) = 0 := if_pos h
  have := sub_any a b w ha hb
  rwa [e1, e2] at this
theorem sub_as (a b c : Int) (w : World) (ha : Fit a) (hb : Fit b) (h : Fit c) (hc : a - b = c) :
    Calls Try.prog 14 #[.int .i64 a, .int .i64 b] w (RetB (.tuple #[.int .i64 c, .int .i64 0]) w) := by
  subst hc
  exact sub_ok a b w ha hb h
theorem sub_no (a b : Int) (w : World) (ha : Fit a) (hb : Fit b) (h : ¬ Fit (a - b)) :
    Calls Try.prog 14 #[.int .i64 a, .int .i64 b] w (RetB (.tuple #[.int .i64 0, .int .i64 4]) w) := by
  have e1 : tz (a - b) = 0 := if_neg h
  have e2 : te (a - b) = 4 := if_neg h
  have := sub_any a b w ha hb
  rwa [e1, e2] at this

theorem mul_ok (a b : Int) (w : World) (ha : Fit a) (hb : Fit b) (h : Fit (a * b)) :
    Calls Try.prog 16 #[.int .i64 a, .int .i64 b] w (RetB (.tuple #[.int .i64 (a * b), .int .i64 0]) w) := by
  have e1 : tz (a * b) = a * b := if_pos h
  have e2 : te (a * b) = 0 := if_pos h
  have := mul_any a b w ha hb
  rwa [e1, e2] at this
theorem mul_as (a b c : Int) (w : World) (ha : Fit a) (hb : Fit b) (h : Fit c) (hc : a * b = c) :
    Calls Try.prog 16 #[.int .i64 a, .int .i64 b] w (RetB (.tuple #[.int .i64 c, .int .i64 0]) w) := by
  subst hc
  exact mul_ok a b w ha hb h
theorem mul_no (a b : Int) (w : World) (ha : Fit a) (hb : Fit b) (h : ¬ Fit (a * b)) :
    Calls Try.prog 16 #[.int .i64 a, .int .i64 b] w (RetB (.tuple #[.int .i64 0, .int .i64 4]) w) := by
  have e1 : tz (a * b) = 0 := if_neg h
  have e2 : te (a * b) = 4 := if_neg h
  have := mul_any a b w ha hb
  rwa [e1, e2] at this

theorem cmp_live (w : World) : Calls Try.prog 20 #[.int .i64 3, .int .i64 4, .int .i64 2, .int .i64 3] w (RetB (.tuple #[.int .i64 1, .int .i64 0]) w) := by
  have := cmp_any 3 4 2 3 w (by unfold Fit; omega) (by unfold Fit; omega) (by unfold Fit; omega) (by unfold Fit; omega)
  rwa [show cmpZ 3 4 2 3 = 1 by decide, show cmpE 4 3 = 0 by decide] at this

theorem gap_live (w : World) : Calls Try.prog 22 #[.int .i64 3, .int .i64 4, .int .i64 2, .int .i64 3] w (RetB (.tuple #[.int .i64 1, .int .i64 12, .int .i64 0]) w) := by
  have := gap_any 3 4 2 3 w (by unfold Fit; omega) (by unfold Fit; omega) (by unfold Fit; omega) (by unfold Fit; omega)
  rwa [show gapT 3 4 2 3 = (1, 12, 0) by decide] at this

theorem live_any (w : World) : Calls Try.prog 11 #[] w (RetB (.bool true) w) := by
  go_enter Try.func11, Try.ntmps11
  go_wp2_with fail
  refine (cmp_live _).mono ?_
  rintro e w1 ⟨rfl, hb1⟩
  have HB1 := Lib.hid hb1
  clear hb1
  go_wp2_with fail
  refine (gap_live _).mono ?_
  rintro e w2 ⟨rfl, hb2⟩
  have HB2 := Lib.hid hb2
  clear hb2
  go_wp2
  go_ret
  exact RetB.of rfl (below3 (HB1.out) HB2.out)

end Go.Proofs.Ytaaffpeppdinhaa

/-
  Layer 14: the chapter's example comes to true.
-/
import Derived.Test.YtkgdfaachpogmaaTne
import Derived.Test.YtkgdfaachpogmaaTnm
namespace Go.Proofs.Ytkgdfaachpogmaa
open Go.RowKit

theorem ints1_tn {w : World} {g : Nat} {t : TypeId} {z : Int} (h : Bk w g t #[.int .i64 z]) (hz : Fit z) : Ints w (some ⟨g, 0, none⟩) 1 [z] :=
  ⟨rfl, by decide, by simpa using hz, fun _ => ⟨g, 0, rfl, h.lt, fun j hj => by obtain rfl : j = 0 := by omega
                                                                                exact h.cell 0⟩⟩
theorem live_new : newLn [3] [1] = (0, [⟨3, 1, 0, 0, 0⟩]) := by decide +kernel
theorem live_one : admitLn [⟨3, 1, 0, 0, 0⟩] 0 = (0, [⟨3, 1, 1, 0, 0⟩]) := by decide +kernel
theorem live_two : admitLn [⟨3, 1, 1, 0, 0⟩] 0 = (10, []) := by decide +kernel

set_option maxHeartbeats 2000000 in
theorem live14_any (w : World) :
    Calls Try.prog 6 #[] w (RetB (.bool true) w) := by
  obtain ⟨k0, k1, b0⟩ := lies2 w #[.int .i64 3] #[.int .i64 1] 3 3
  have I0 := Lib.hid (ints1_tn k0 (by unfold Fit; decide))
  have I1 := Lib.hid (ints1_tn k1 (by unfold Fit; decide))
  have BB := Lib.hid b0
  clear k0 k1 b0
  go_enter Try.func6, Try.ntmps6
  go_wp2_with fail
  refine (pnew_tn _ _ 1 1 1 1 [3] [1] _ I0.out I1.out).mono ?_
  rw [live_new]
  rintro e U1 ⟨A1, c1, rfl, o1, b1⟩
  have T1 := Lib.hid o1.tns
  replace BB := Lib.hid (below3 BB.out b1)
  clear o1 b1 I0 I1
  go_wp2_with fail
  refine (padmit_tn A1 _ c1 _ 0 _ T1.out (by decide)).mono ?_
  rw [live_one]
  rintro e U2 ⟨A2, c2, rfl, o2, b2⟩
  have T2 := Lib.hid o2.tns
  replace BB := Lib.hid (below3 BB.out b2)
  clear o2 b2 T1
  go_wp2_with fail
  refine (padmit_tn A2 _ c2 _ 0 _ T2.out (by decide)).mono ?_
  rw [live_two]
  rintro e U3 ⟨A3, c3, rfl, o3, b3⟩
  replace T2 := Lib.hid (T2.out.below b3)
  replace BB := Lib.hid (below3 BB.out b3)
  clear o3 b3
  obtain ⟨b, o, rfl, hb, q0, q1, q2, q3, q4⟩ := T2.out.at_ (j := 0) (by decide)
  simp only [Nat.zero_mul, Nat.add_zero] at q0 q1 q2 q3 q4
  have q2 : _ = some (Value.int .i64 1) := q2
  clear q0 q1 q3 q4
  go_wp2
  go_ret
  exact ⟨rfl, BB.out⟩

end Go.Proofs.Ytkgdfaachpogmaa

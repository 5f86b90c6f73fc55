/-
  What layer 9's laws have in common: the chapter's example comes to true.
-/
import Derived.Test.YtndbaoiabmldgaaMq
namespace Go.Proofs.Ytndbaoiabmldgaa
open Go.RowKit

theorem ok_one {x : Ds} (h : okD x) : pollOk [x] := pollOk_iff.2 ⟨by simp, fun j hj => by
  obtain rfl : j = 0 := by simp at hj; exact hj
  exact h, fun i j hi hj hne => by simp at hi hj; omega⟩
theorem new_one : newR 1 = (0, [nilD]) := by unfold newR; rw [if_pos (by decide)]; rfl
theorem live_open : openR [nilD] 0 = (0, [quiD]) := (openR_at (k := 0) (ok_one okD_nil) (by decide)).trans rfl
theorem live_fire : fireR [quiD] 0 = (0, -1, [rdyD]) := (fireR_at (k := 0) (ok_one okD_qui) (by decide)).trans (by rw [if_pos (by decide), if_neg (by decide)]; rfl)
theorem live_fire2 : fireR [rdyD] 0 = (0, -1, [rdyD]) := (fireR_at (k := 0) (ok_one okD_rdy) (by decide)).trans (by rw [if_pos (by decide), if_neg (by decide)]; rfl)
theorem no_wait {o r : Bool} {id : Int} (h : 0 ≤ id) : ¬ waitsD [(o, r, -1)] id := by
  rintro ⟨j, hj, e⟩
  obtain rfl : j = 0 := by simp at hj; exact hj
  have e : (-1 : Int) = id := e
  omega
theorem live_arm : armR [rdyD] 0 5 = (0, true, [quiD]) := (armR_at (k := 0) (ok_one okD_rdy) (by decide) (by decide)).trans (by rw [if_pos (by decide), if_neg (no_wait (by decide)), if_neg (by decide), if_pos (by decide)]; rfl)
theorem live_arm2 : armR [quiD] 0 6 = (0, false, [(true, false, 6)]) := (armR_at (k := 0) (ok_one okD_qui) (by decide) (by decide)).trans (by rw [if_pos (by decide), if_neg (no_wait (by decide)), if_neg (by decide), if_neg (by decide)]; rfl)

set_option maxHeartbeats 2000000 in
theorem live_any (w : World) : Calls Try.prog 9 #[] w (RetB (.bool true) w) := by
  go_enter Try.func9, Try.ntmps9
  go_wp2_with fail
  refine (pnew_any 1 _).mono ?_
  rw [new_one]
  rintro e w1 ⟨A1, c1, rfl, o1, b1⟩
  have O1 := Lib.hid o1.dss
  have B1 := Lib.hid b1
  clear o1 b1
  go_wp2_with fail
  refine (popen_any A1 _ c1 [nilD] 0 _ O1.out (by decide)).mono ?_
  rw [live_open]
  rintro e w2 ⟨A2, c2, rfl, o2, b2⟩
  have O2 := Lib.hid o2.dss
  have B2 := Lib.hid (below3 B1.out b2)
  clear o2 b2 O1
  go_wp2_with fail
  refine (pfire_any A2 _ c2 [quiD] 0 _ O2.out (by decide)).mono ?_
  rw [live_fire]
  rintro e w3 ⟨A3, c3, rfl, o3, b3⟩
  have O3 := Lib.hid o3.dss
  have B3 := Lib.hid (below3 B2.out b3)
  clear o3 b3 O2
  go_wp2_with fail
  refine (pfire_any A3 _ c3 [rdyD] 0 _ O3.out (by decide)).mono ?_
  rw [live_fire2]
  rintro e w4 ⟨A4, c4, rfl, o4, b4⟩
  have O4 := Lib.hid o4.dss
  have B4 := Lib.hid (below3 B3.out b4)
  clear o4 b4 O3
  go_wp2_with fail
  refine (parm_any A4 _ c4 [rdyD] 0 5 _ O4.out (by decide) (by decide)).mono ?_
  rw [live_arm]
  rintro e w5 ⟨A5, c5, rfl, o5, b5⟩
  have O5 := Lib.hid o5.dss
  have B5 := Lib.hid (below3 B4.out b5)
  clear o5 b5 O4
  go_wp2_with fail
  refine (parm_any A5 _ c5 [quiD] 0 6 _ O5.out (by decide) (by decide)).mono ?_
  rw [live_arm2]
  rintro e w6 ⟨A6, c6, rfl, o6, b6⟩
  have B6 := Lib.hid (below3 B5.out b6)
  clear o6 b6 O5
  go_wp2_with fail
  go_ret
  exact ⟨rfl, B6.out⟩

end Go.Proofs.Ytndbaoiabmldgaa

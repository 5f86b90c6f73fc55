/-
  Layer 11's laws: the chapter's example; what the laws need of numbers.
-/
import Derived.Test.YtkffmohgnbnhkaaJl
import Derived.Test.YtkffmohgnbnhkaaJe
namespace Go.Proofs.Ytkffmohgnbnhkaa
open Go.RowKit

theorem live1 : waitR [] 5 6 = (0, [(5, 6)]) := by decide
theorem live2 : waitR [(5, 6)] 6 7 = (0, [(5, 6), (6, 7)]) := by decide
theorem live3 : waitR [(5, 6), (6, 7)] 7 5 = (9, []) := by decide

set_option maxRecDepth 100000 in
set_option maxHeartbeats 4000000 in
theorem live_any (w : World) : Calls Try.prog 8 #[] w (TrueAns w) := by
  go_enter Try.func8, Try.ntmps8
  go_wp2_with fail
  refine (pwait_any none 0 0 [] 5 6 _ (Tms.nil_ _ _ (by omega)) (by decide) (by decide)).mono ?_
  rw [live1]
  rintro e w1 ⟨A1, c1, rfl, o1, b1⟩
  have O1 := Lib.hid o1
  have B1 := Lib.hid b1
  clear o1 b1
  go_wp2_with fail
  refine (pwait_any A1 1 c1 [(5, 6)] 6 7 _ O1.out.tms (by decide) (by decide)).mono ?_
  rw [live2]
  rintro e w2 ⟨A2, c2, rfl, o2, b2⟩
  have O2 := Lib.hid o2
  have B2 := Lib.hid (below3 B1.out b2)
  clear o2 b2
  go_wp2_with fail
  refine (pwait_any A2 2 c2 [(5, 6), (6, 7)] 7 5 _ O2.out.tms (by decide) (by decide)).mono ?_
  rw [live3]
  rintro e w3 ⟨A3, c3, rfl, o3, b3⟩
  have B3 := Lib.hid (below3 B2.out b3)
  clear o3 b3
  go_wp2_with fail
  go_ret
  exact ⟨rfl, B3.out⟩

end Go.Proofs.Ytkffmohgnbnhkaa

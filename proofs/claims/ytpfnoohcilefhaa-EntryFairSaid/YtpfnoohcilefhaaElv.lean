/-
  Layer 19: the chapter's example holds of the program.
-/
import Derived.Test.YtpfnoohcilefhaaEnp
namespace Go.Proofs.Ytpfnoohcilefhaa
open Go.RowKit

def fLive : List I3 := [(0, 0, 0), (0, 1, 0), (0, 0, 0), (0, 1, 0)]
theorem fair_live : fairR fLive 2 2 = (true, 0) := by
  have h : onlyE fLive 0 = fLive := by decide
  refine fairR_yes ⟨by decide, by decide⟩ ?_
  rw [h]
  refine FairP.round (by decide) fun j hj => ?_
  match j, hj with
  | 0, _ => rfl
  | 1, _ => rfl
  | 2, _ => rfl
  | 3, _ => rfl
theorem write_live : wrR [(2, 5, 0)] = ([2, 5, 0], 0) := by
  rw [wrR_ok (chkE19_ok (by decide) (fun j hj => by
    obtain rfl : j = 0 := by simp at hj; omega
    decide))]
  rfl
theorem prog4_en {w : World} {g : Nat} {E : TypeId} {x0 y0 z0 x1 y1 z1 x2 y2 z2 x3 y3 z3 : Int} (h : Bk w g E #[.int .i64 x0, .int .i64 y0, .int .i64 z0, .int .i64 x1, .int .i64 y1, .int .i64 z1, .int .i64 x2, .int .i64 y2, .int .i64 z2, .int .i64 x3, .int .i64 y3, .int .i64 z3]) (hf : ∀ q ∈ [(x0, y0, z0), (x1, y1, z1), (x2, y2, z2), (x3, y3, z3)], FitI q) : Prog w (some ⟨g, 0, none⟩) 4 4 [(x0, y0, z0), (x1, y1, z1), (x2, y2, z2), (x3, y3, z3)] := by
  refine ⟨rfl, by omega, hf, fun _ => ⟨g, 0, rfl, h.lt, fun j hj => ?_⟩⟩
  match j, hj with
  | 0, _ => exact ⟨h.cell 0, h.cell 1, h.cell 2⟩
  | 1, _ => exact ⟨h.cell 3, h.cell 4, h.cell 5⟩
  | 2, _ => exact ⟨h.cell 6, h.cell 7, h.cell 8⟩
  | 3, _ => exact ⟨h.cell 9, h.cell 10, h.cell 11⟩

set_option maxHeartbeats 1000000 in
theorem live19_any (w : World) :
    Calls Try.prog 8 #[] w (RetB (.bool true) w) := by
  obtain ⟨k1, hb⟩ := lay1 w #[.int .i64 0, .int .i64 0, .int .i64 0, .int .i64 0, .int .i64 1, .int .i64 0, .int .i64 0, .int .i64 0, .int .i64 0, .int .i64 0, .int .i64 1, .int .i64 0] 45
  have hl := prog4_en k1 (by intro q hq; simp at hq; rcases hq with rfl | rfl | rfl | rfl <;> (unfold FitI Fit; decide))
  have HC := Lib.hid (fair_en (some ⟨w.heap.size, 0, none⟩) 4 4 fLive 2 2 _ (by decide) (by decide) hl)
  have HB := Lib.hid hb
  clear hl k1 hb
  go_enter Try.func8, Try.ntmps8
  go_wp2_with fail
  refine HC.out.mono ?_
  rw [fair_live]
  rintro e U ⟨rfl, bU⟩
  have BB := Lib.hid (below3 HB.out bU)
  clear bU HC HB
  have hp := prog1_en U 45 (x := 2) (y := 5) (z := 0) (by unfold FitI Fit; decide)
  have HW := Lib.hid (write_en (some ⟨U.heap.size, 0, none⟩) 1 1 [(2, 5, 0)] _ hp)
  have B2 := Lib.hid (below3 BB.out ((Below.refl U.heap.size U).alloc (Nat.le_refl _) (.cells #[.int .i64 2, .int .i64 5, .int .i64 0] 45)))
  clear hp
  go_wp2_with fail
  refine HW.out.mono ?_
  unfold WriteP
  rw [write_live]
  rintro e U2 ⟨D, d, rfl, ow, b2⟩
  have B3 := Lib.hid (below3 B2.out b2)
  obtain ⟨b, o, hA, hbl, hc⟩ := ow.octs.2.2.2 (by decide)
  subst hA
  have c0 := hc 0 (by decide)
  have c1 := hc 1 (by decide)
  rw [show nth [2, 5, 0] 0 = 2 from rfl] at c0
  rw [show nth [2, 5, 0] 1 = 5 from rfl] at c1
  simp only [Nat.add_zero] at c0
  clear hc ow b2 HW
  go_wp2_with fail
  go_ret
  exact ⟨rfl, B3.out⟩

end Go.Proofs.Ytpfnoohcilefhaa

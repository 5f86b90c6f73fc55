/-
  The law package's own check of layer 5's example.
-/
import Derived.Test.YtfaajimmammfdaaVar
import Derived.Test.YtfaajimmammfdaaPu
import Derived.Test.YtfaajimmammfdaaPh
namespace Go.Proofs.Ytfaajimmammfdaa
open Go.RowKit

theorem okS_two {x y : Int} {p q : Bool} (hx : 0 ≤ x ∧ x < 1099511627776) (hy : 0 ≤ y ∧ y < 1099511627776) : okS [x, y] [p, q] := by
  refine ⟨by simp, by simp, rfl, fun i hi => ?_⟩
  match i, hi with
  | 0, _ => simp [nth, bth]; omega
  | 1, _ => simp [nth, bth]; omega
theorem first_two {x y : Int} {q : Bool} (hx : x < 1099511627776) : IsFirst [x, y] [false, q] 0 := ⟨by simp, ⟨by simp [bth], by simpa [nth] using hx⟩, fun j hj => absurd hj (by omega)⟩
theorem take_t1 : takeF [0, 0] [false, false] = (0, [0, 0], [true, false], 0) := takeF_first (i := 0) (okS_two (by omega) (by omega)) (first_two (by omega))
theorem free_t2 : freeF [0, 0] [true, false] 0 = ([1, 0], [false, false], 0) := (freeF_at (i := 0) (okS_two (by omega) (by omega)) (by simp) (by simp [bth])).2.2
theorem take_t3 : takeF [1, 0] [false, false] = (256, [1, 0], [true, false], 0) := takeF_first (i := 0) (okS_two (by omega) (by omega)) (first_two (by omega))

theorem new_two (w : World) : Calls Try.prog 10 #[.int .i64 2] w (NewPE [0, 0] [false, false] 0 w) := new_yes 2 w (by omega) (by omega)

set_option maxRecDepth 100000 in
set_option maxHeartbeats 4000000 in
theorem live_any (w : World) : Calls Try.prog 8 #[] w (TrueAns w) := by
  go_enter Try.func8, Try.ntmps8
  go_wp2_with fail
  refine (new_two _).mono ?_
  rintro e w1 ⟨A1, c1, B1, d1, rfl, ho1, hb1⟩
  have V1 := Lib.hid (PV.new (n := 2) (m := 2) (Below.refl w.heap.size w) hb1 ho1 rfl rfl)
  clear ho1 hb1
  have a0 := V1.out.box.c0
  have a1 := V1.out.box.c1
  go_wp2_with fail
  refine (take_any A1 B1 2 c1 2 d1 _ _ _ V1.out.plc).mono ?_
  rw [take_t1]
  rintro e w2 ⟨A2, c2, B2, d2, rfl, ho2, hb2⟩
  have k2 := V1.out.call hb2
  have V2 := Lib.hid (V1.out.store (n' := 2) (m' := 2) hb2 ho2 rfl rfl)
  clear ho2 hb2 a0 a1 V1
  have a0 := k2.box.c0
  have a1 := k2.box.c1
  have f0 := k2.box.frozen 0
  have f1 := k2.box.frozen 1
  clear k2
  go_wp2_with fail
  refine (free_any A2 B2 2 c2 2 d2 [0, 0] [true, false] 0 _ V2.out.plc fit0).mono ?_
  rw [free_t2]
  rintro e w3 ⟨A3, c3, B3, d3, rfl, ho3, hb3⟩
  have k3 := V2.out.call hb3
  have V3 := Lib.hid (V2.out.store (n' := 2) (m' := 2) hb3 ho3 rfl rfl)
  clear ho3 hb3 a0 a1 f0 f1 V2
  have a0 := k3.box.c0
  have a1 := k3.box.c1
  have f0 := k3.box.frozen 0
  have f1 := k3.box.frozen 1
  clear k3
  go_wp2_with fail
  refine (take_any A3 B3 2 c3 2 d3 [1, 0] [false, false] _ V3.out.plc).mono ?_
  rw [take_t3]
  rintro e w4 ⟨A4, c4, B4, d4, rfl, ho4, hb4⟩
  have HB := Lib.hid (below3 V3.out.below hb4)
  have HB2 := Lib.hid (HB.out.alloc HB.out.size (.cells #[.slice A4 2 c4, .slice B4 2 d4] 25))
  clear ho4 hb4 a0 a1 f0 f1 V3
  go_wp2
  go_ret
  exact ⟨rfl, HB2.out⟩

end Go.Proofs.Ytfaajimmammfdaa

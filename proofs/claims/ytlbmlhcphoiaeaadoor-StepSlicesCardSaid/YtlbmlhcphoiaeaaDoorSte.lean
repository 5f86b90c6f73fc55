/-
  Layer 13: Slice, the program's and the document's.
-/
import Derived.Test.YtlbmlhcphoiaeaaDoorStm
namespace Go.Proofs.YtlbmlhcphoiaeaaDoor
open Go.RowKit

set_option maxRecDepth 100000 in
set_option maxHeartbeats 4000000 in
theorem slice_1 (t : Tk) (A : Option Addr) (n c : Nat) (p : List I3) (b : Int) (w : World) (hp : Prog w A n c p) (h : ¬ okF t p) : Calls Tryd.prog 12 #[.agg (tc t), .slice A n c, .int .i64 b] w (RetB (.tuple #[.agg (tc (sliceR t p b).1), vI (sliceR t p b).2.1, .int .i64 (sliceR t p b).2.2.1, .int .i64 (sliceR t p b).2.2.2]) w) := by
  have HP := Lib.hid hp
  clear hp
  rw [sliceR_no (fun q => h q.1)]
  have HC := Lib.hid (fun (W : World) (h : Below w.heap.size w W) => fits_any t A n c p W (HP.out.below h))
  have HR := Lib.hid (okFB_no h)
  clear h
  obtain ⟨id, tn, pg, pc, un, k0, k1, k2, k3, st, rn⟩ := t
  unfold tc at HC
  unfold tc zT vI zI
  dsimp only at HC ⊢
  obtain ⟨kb0, kb1, kb2, hb0⟩ := lies3 w #[.int .i64 id, .int .i64 tn, .int .i64 pg, .int .i64 pc, .int .i64 un, .int .i64 k0, .int .i64 k1, .int .i64 k2, .int .i64 k3, .int .i64 st, .int .i64 rn] #[.int .i64 0, .int .i64 0, .int .i64 0, .int .i64 0, .int .i64 0, .int .i64 0, .int .i64 0, .int .i64 0, .int .i64 0, .int .i64 0, .int .i64 0] #[.int .i64 0, .int .i64 0, .int .i64 0] 24 24 28
  obtain ⟨V, hV⟩ : ∃ V, ((w.alloc (.cells #[.int .i64 id, .int .i64 tn, .int .i64 pg, .int .i64 pc, .int .i64 un, .int .i64 k0, .int .i64 k1, .int .i64 k2, .int .i64 k3, .int .i64 st, .int .i64 rn] 24)).alloc (.cells #[.int .i64 0, .int .i64 0, .int .i64 0, .int .i64 0, .int .i64 0, .int .i64 0, .int .i64 0, .int .i64 0, .int .i64 0, .int .i64 0, .int .i64 0] 24)).alloc (.cells #[.int .i64 0, .int .i64 0, .int .i64 0] 28) = V := ⟨_, rfl⟩
  rw [hV] at hb0 kb0 kb1 kb2
  have HV := Lib.hid hV
  have BB := Lib.hid hb0
  have Kt := Lib.hid kb0
  have HBt : Hid (w.heap.size ≤ w.heap.size) := Lib.hid (by omega)
  have Kr := Lib.hid kb1
  have HBr : Hid (w.heap.size ≤ (w.heap.size + 1)) := Lib.hid (by omega)
  have Nt_r : Hid (w.heap.size ≠ (w.heap.size + 1)) := Lib.hid (by omega)
  have Kx := Lib.hid kb2
  have HBx : Hid (w.heap.size ≤ (w.heap.size + 1 + 1)) := Lib.hid (by omega)
  have Nt_x : Hid (w.heap.size ≠ (w.heap.size + 1 + 1)) := Lib.hid (by omega)
  have Nr_x : Hid ((w.heap.size + 1) ≠ (w.heap.size + 1 + 1)) := Lib.hid (by omega)
  clear hV hb0 kb0 kb1 kb2
  go_enter Tryd.func12, Tryd.ntmps12
  go_upto_region 1 with fail
  rw [HV.out]
  clear HV
  obtain ⟨qt_0, qt_1, qt_2, qt_3, qt_4, qt_5, qt_6, qt_7, qt_8, qt_9, qt_10⟩ := Kt.out.c11
  have lt := Kt.out.lt
  go_wp2_with fail
  refine (HC.out _ BB.out).mono ?_
  rw [HR.out]
  rintro e U1 ⟨rfl, bU1⟩
  clear qt_0 qt_1 qt_2 qt_3 qt_4 qt_5 qt_6 qt_7 qt_8 qt_9 qt_10 lt
  replace BB := Lib.hid (below3 BB.out bU1)
  replace Kt := Lib.hid (Kt.out.below bU1 Kt.out.lt)
  replace Kr := Lib.hid (Kr.out.below bU1 Kr.out.lt)
  replace Kx := Lib.hid (Kx.out.below bU1 Kx.out.lt)
  clear bU1
  obtain ⟨qr_0, qr_1, qr_2, qr_3, qr_4, qr_5, qr_6, qr_7, qr_8, qr_9, qr_10⟩ := Kr.out.c11
  have lr := Kr.out.lt
  obtain ⟨fr_0, fr_1, fr_2, fr_3, fr_4, fr_5, fr_6, fr_7, fr_8, fr_9, fr_10⟩ := Kr.out.f11
  obtain ⟨qx_0, qx_1, qx_2⟩ := Kx.out.c3
  have lx := Kx.out.lt
  obtain ⟨fx_0, fx_1, fx_2⟩ := Kx.out.f3
  have B_r := Lib.hid (below_set11 (g := (w.heap.size + 1)) BB.out HBr.out (.int .i64 0) (.int .i64 0) (.int .i64 0) (.int .i64 0) (.int .i64 0) (.int .i64 0) (.int .i64 0) (.int .i64 0) (.int .i64 0) (.int .i64 0) (.int .i64 0))
  have S_r := Lib.hid (bk_set11 Kr.out (.int .i64 0) (.int .i64 0) (.int .i64 0) (.int .i64 0) (.int .i64 0) (.int .i64 0) (.int .i64 0) (.int .i64 0) (.int .i64 0) (.int .i64 0) (.int .i64 0))
  have F_x_r := Lib.hid (far_set11 Kx.out (Nr_x.out.symm) (.int .i64 0) (.int .i64 0) (.int .i64 0) (.int .i64 0) (.int .i64 0) (.int .i64 0) (.int .i64 0) (.int .i64 0) (.int .i64 0) (.int .i64 0) (.int .i64 0))
  have B_x := Lib.hid (below_set3 (g := (w.heap.size + 1 + 1)) B_r.out HBx.out (.int .i64 0) (.int .i64 0) (.int .i64 0))
  have S_x := Lib.hid (bk_set3 F_x_r.out (.int .i64 0) (.int .i64 0) (.int .i64 0))
  have F_r_x := Lib.hid (far_set3 S_r.out (Nr_x.out) (.int .i64 0) (.int .i64 0) (.int .i64 0))
  unfold set11 set3 at B_x
  go_wp2
  obtain ⟨rr_0, rr_1, rr_2, rr_3, rr_4, rr_5, rr_6, rr_7, rr_8, rr_9, rr_10⟩ := Bk.c11 (F_r_x.out)
  obtain ⟨rx_0, rx_1, rx_2⟩ := Bk.c3 (S_x.out)
  unfold set11 set3 at rr_0 rr_1 rr_2 rr_3 rr_4 rr_5 rr_6 rr_7 rr_8 rr_9 rr_10 rx_0 rx_1 rx_2
  exact bodyPost_ret (v := .tuple #[.agg #[.int .i64 0, .int .i64 0, .int .i64 0, .int .i64 0, .int .i64 0, .int .i64 0, .int .i64 0, .int .i64 0, .int .i64 0, .int .i64 0, .int .i64 0], .agg #[.int .i64 0, .int .i64 0, .int .i64 0], .int .i64 0, .int .i64 1]) (by simp [results, Tryd.results12, go_sem, rr_0, rr_1, rr_2, rr_3, rr_4, rr_5, rr_6, rr_7, rr_8, rr_9, rr_10, rx_0, rx_1, rx_2]) rfl ⟨rfl, B_x.out⟩

set_option maxRecDepth 100000 in
set_option maxHeartbeats 4000000 in
theorem slice_2 (t : Tk) (A : Option Addr) (n c : Nat) (p : List I3) (b : Int) (w : World) (hp : Prog w A n c p) (h : okF t p) (hb : b < 1) : Calls Tryd.prog 12 #[.agg (tc t), .slice A n c, .int .i64 b] w (RetB (.tuple #[.agg (tc (sliceR t p b).1), vI (sliceR t p b).2.1, .int .i64 (sliceR t p b).2.2.1, .int .i64 (sliceR t p b).2.2.2]) w) := by
  have HP := Lib.hid hp
  clear hp
  rw [sliceR_no (fun q => by omega)]
  have HC := Lib.hid (fun (W : World) (h : Below w.heap.size w W) => fits_any t A n c p W (HP.out.below h))
  have HR := Lib.hid (okFB_yes h)
  clear h
  obtain ⟨id, tn, pg, pc, un, k0, k1, k2, k3, st, rn⟩ := t
  unfold tc at HC
  unfold tc zT vI zI
  dsimp only at HC ⊢
  obtain ⟨kb0, kb1, kb2, hb0⟩ := lies3 w #[.int .i64 id, .int .i64 tn, .int .i64 pg, .int .i64 pc, .int .i64 un, .int .i64 k0, .int .i64 k1, .int .i64 k2, .int .i64 k3, .int .i64 st, .int .i64 rn] #[.int .i64 0, .int .i64 0, .int .i64 0, .int .i64 0, .int .i64 0, .int .i64 0, .int .i64 0, .int .i64 0, .int .i64 0, .int .i64 0, .int .i64 0] #[.int .i64 0, .int .i64 0, .int .i64 0] 24 24 28
  obtain ⟨V, hV⟩ : ∃ V, ((w.alloc (.cells #[.int .i64 id, .int .i64 tn, .int .i64 pg, .int .i64 pc, .int .i64 un, .int .i64 k0, .int .i64 k1, .int .i64 k2, .int .i64 k3, .int .i64 st, .int .i64 rn] 24)).alloc (.cells #[.int .i64 0, .int .i64 0, .int .i64 0, .int .i64 0, .int .i64 0, .int .i64 0, .int .i64 0, .int .i64 0, .int .i64 0, .int .i64 0, .int .i64 0] 24)).alloc (.cells #[.int .i64 0, .int .i64 0, .int .i64 0] 28) = V := ⟨_, rfl⟩
  rw [hV] at hb0 kb0 kb1 kb2
  have HV := Lib.hid hV
  have BB := Lib.hid hb0
  have Kt := Lib.hid kb0
  have HBt : Hid (w.heap.size ≤ w.heap.size) := Lib.hid (by omega)
  have Kr := Lib.hid kb1
  have HBr : Hid (w.heap.size ≤ (w.heap.size + 1)) := Lib.hid (by omega)
  have Nt_r : Hid (w.heap.size ≠ (w.heap.size + 1)) := Lib.hid (by omega)
  have Kx := Lib.hid kb2
  have HBx : Hid (w.heap.size ≤ (w.heap.size + 1 + 1)) := Lib.hid (by omega)
  have Nt_x : Hid (w.heap.size ≠ (w.heap.size + 1 + 1)) := Lib.hid (by omega)
  have Nr_x : Hid ((w.heap.size + 1) ≠ (w.heap.size + 1 + 1)) := Lib.hid (by omega)
  clear hV hb0 kb0 kb1 kb2
  go_enter Tryd.func12, Tryd.ntmps12
  go_upto_region 1 with fail
  rw [HV.out]
  clear HV
  obtain ⟨qt_0, qt_1, qt_2, qt_3, qt_4, qt_5, qt_6, qt_7, qt_8, qt_9, qt_10⟩ := Kt.out.c11
  have lt := Kt.out.lt
  go_wp2_with fail
  refine (HC.out _ BB.out).mono ?_
  rw [HR.out]
  rintro e U1 ⟨rfl, bU1⟩
  clear qt_0 qt_1 qt_2 qt_3 qt_4 qt_5 qt_6 qt_7 qt_8 qt_9 qt_10 lt
  replace BB := Lib.hid (below3 BB.out bU1)
  replace Kt := Lib.hid (Kt.out.below bU1 Kt.out.lt)
  replace Kr := Lib.hid (Kr.out.below bU1 Kr.out.lt)
  replace Kx := Lib.hid (Kx.out.below bU1 Kx.out.lt)
  clear bU1
  obtain ⟨qr_0, qr_1, qr_2, qr_3, qr_4, qr_5, qr_6, qr_7, qr_8, qr_9, qr_10⟩ := Kr.out.c11
  have lr := Kr.out.lt
  obtain ⟨fr_0, fr_1, fr_2, fr_3, fr_4, fr_5, fr_6, fr_7, fr_8, fr_9, fr_10⟩ := Kr.out.f11
  obtain ⟨qx_0, qx_1, qx_2⟩ := Kx.out.c3
  have lx := Kx.out.lt
  obtain ⟨fx_0, fx_1, fx_2⟩ := Kx.out.f3
  have B_r := Lib.hid (below_set11 (g := (w.heap.size + 1)) BB.out HBr.out (.int .i64 0) (.int .i64 0) (.int .i64 0) (.int .i64 0) (.int .i64 0) (.int .i64 0) (.int .i64 0) (.int .i64 0) (.int .i64 0) (.int .i64 0) (.int .i64 0))
  have S_r := Lib.hid (bk_set11 Kr.out (.int .i64 0) (.int .i64 0) (.int .i64 0) (.int .i64 0) (.int .i64 0) (.int .i64 0) (.int .i64 0) (.int .i64 0) (.int .i64 0) (.int .i64 0) (.int .i64 0))
  have F_x_r := Lib.hid (far_set11 Kx.out (Nr_x.out.symm) (.int .i64 0) (.int .i64 0) (.int .i64 0) (.int .i64 0) (.int .i64 0) (.int .i64 0) (.int .i64 0) (.int .i64 0) (.int .i64 0) (.int .i64 0) (.int .i64 0))
  have B_x := Lib.hid (below_set3 (g := (w.heap.size + 1 + 1)) B_r.out HBx.out (.int .i64 0) (.int .i64 0) (.int .i64 0))
  have S_x := Lib.hid (bk_set3 F_x_r.out (.int .i64 0) (.int .i64 0) (.int .i64 0))
  have F_r_x := Lib.hid (far_set3 S_r.out (Nr_x.out) (.int .i64 0) (.int .i64 0) (.int .i64 0))
  unfold set11 set3 at B_x
  go_wp2
  obtain ⟨rr_0, rr_1, rr_2, rr_3, rr_4, rr_5, rr_6, rr_7, rr_8, rr_9, rr_10⟩ := Bk.c11 (F_r_x.out)
  obtain ⟨rx_0, rx_1, rx_2⟩ := Bk.c3 (S_x.out)
  unfold set11 set3 at rr_0 rr_1 rr_2 rr_3 rr_4 rr_5 rr_6 rr_7 rr_8 rr_9 rr_10 rx_0 rx_1 rx_2
  exact bodyPost_ret (v := .tuple #[.agg #[.int .i64 0, .int .i64 0, .int .i64 0, .int .i64 0, .int .i64 0, .int .i64 0, .int .i64 0, .int .i64 0, .int .i64 0, .int .i64 0, .int .i64 0], .agg #[.int .i64 0, .int .i64 0, .int .i64 0], .int .i64 0, .int .i64 1]) (by simp [results, Tryd.results12, go_sem, rr_0, rr_1, rr_2, rr_3, rr_4, rr_5, rr_6, rr_7, rr_8, rr_9, rr_10, rx_0, rx_1, rx_2]) rfl ⟨rfl, B_x.out⟩

set_option maxRecDepth 100000 in
set_option maxHeartbeats 4000000 in
theorem slice_3 (t : Tk) (A : Option Addr) (n c : Nat) (p : List I3) (b : Int) (w : World) (hp : Prog w A n c p) (h : okF t p) (hb : 100 < b) : Calls Tryd.prog 12 #[.agg (tc t), .slice A n c, .int .i64 b] w (RetB (.tuple #[.agg (tc (sliceR t p b).1), vI (sliceR t p b).2.1, .int .i64 (sliceR t p b).2.2.1, .int .i64 (sliceR t p b).2.2.2]) w) := by
  have HP := Lib.hid hp
  clear hp
  rw [sliceR_no (fun q => by omega)]
  have HC := Lib.hid (fun (W : World) (h : Below w.heap.size w W) => fits_any t A n c p W (HP.out.below h))
  have HR := Lib.hid (okFB_yes h)
  have hb1 : ¬ b < 1 := by omega
  clear h
  obtain ⟨id, tn, pg, pc, un, k0, k1, k2, k3, st, rn⟩ := t
  unfold tc at HC
  unfold tc zT vI zI
  dsimp only at HC ⊢
  obtain ⟨kb0, kb1, kb2, hb0⟩ := lies3 w #[.int .i64 id, .int .i64 tn, .int .i64 pg, .int .i64 pc, .int .i64 un, .int .i64 k0, .int .i64 k1, .int .i64 k2, .int .i64 k3, .int .i64 st, .int .i64 rn] #[.int .i64 0, .int .i64 0, .int .i64 0, .int .i64 0, .int .i64 0, .int .i64 0, .int .i64 0, .int .i64 0, .int .i64 0, .int .i64 0, .int .i64 0] #[.int .i64 0, .int .i64 0, .int .i64 0] 24 24 28
  obtain ⟨V, hV⟩ : ∃ V, ((w.alloc (.cells #[.int .i64 id, .int .i64 tn, .int .i64 pg, .int .i64 pc, .int .i64 un, .int .i64 k0, .int .i64 k1, .int .i64 k2, .int .i64 k3, .int .i64 st, .int .i64 rn] 24)).alloc (.cells #[.int .i64 0, .int .i64 0, .int .i64 0, .int .i64 0, .int .i64 0, .int .i64 0, .int .i64 0, .int .i64 0, .int .i64 0, .int .i64 0, .int .i64 0] 24)).alloc (.cells #[.int .i64 0, .int .i64 0, .int .i64 0] 28) = V := ⟨_, rfl⟩
  rw [hV] at hb0 kb0 kb1 kb2
  have HV := Lib.hid hV
  have BB := Lib.hid hb0
  have Kt := Lib.hid kb0
  have HBt : Hid (w.heap.size ≤ w.heap.size) := Lib.hid (by omega)
  have Kr := Lib.hid kb1
  have HBr : Hid (w.heap.size ≤ (w.heap.size + 1)) := Lib.hid (by omega)
  have Nt_r : Hid (w.heap.size ≠ (w.heap.size + 1)) := Lib.hid (by omega)
  have Kx := Lib.hid kb2
  have HBx : Hid (w.heap.size ≤ (w.heap.size + 1 + 1)) := Lib.hid (by omega)
  have Nt_x : Hid (w.heap.size ≠ (w.heap.size + 1 + 1)) := Lib.hid (by omega)
  have Nr_x : Hid ((w.heap.size + 1) ≠ (w.heap.size + 1 + 1)) := Lib.hid (by omega)
  clear hV hb0 kb0 kb1 kb2
  go_enter Tryd.func12, Tryd.ntmps12
  go_upto_region 1 with fail
  rw [HV.out]
  clear HV
  obtain ⟨qt_0, qt_1, qt_2, qt_3, qt_4, qt_5, qt_6, qt_7, qt_8, qt_9, qt_10⟩ := Kt.out.c11
  have lt := Kt.out.lt
  go_wp2_with fail
  refine (HC.out _ BB.out).mono ?_
  rw [HR.out]
  rintro e U1 ⟨rfl, bU1⟩
  clear qt_0 qt_1 qt_2 qt_3 qt_4 qt_5 qt_6 qt_7 qt_8 qt_9 qt_10 lt
  replace BB := Lib.hid (below3 BB.out bU1)
  replace Kt := Lib.hid (Kt.out.below bU1 Kt.out.lt)
  replace Kr := Lib.hid (Kr.out.below bU1 Kr.out.lt)
  replace Kx := Lib.hid (Kx.out.below bU1 Kx.out.lt)
  clear bU1
  obtain ⟨qr_0, qr_1, qr_2, qr_3, qr_4, qr_5, qr_6, qr_7, qr_8, qr_9, qr_10⟩ := Kr.out.c11
  have lr := Kr.out.lt
  obtain ⟨fr_0, fr_1, fr_2, fr_3, fr_4, fr_5, fr_6, fr_7, fr_8, fr_9, fr_10⟩ := Kr.out.f11
  obtain ⟨qx_0, qx_1, qx_2⟩ := Kx.out.c3
  have lx := Kx.out.lt
  obtain ⟨fx_0, fx_1, fx_2⟩ := Kx.out.f3
  have B_r := Lib.hid (below_set11 (g := (w.heap.size + 1)) BB.out HBr.out (.int .i64 0) (.int .i64 0) (.int .i64 0) (.int .i64 0) (.int .i64 0) (.int .i64 0) (.int .i64 0) (.int .i64 0) (.int .i64 0) (.int .i64 0) (.int .i64 0))
  have S_r := Lib.hid (bk_set11 Kr.out (.int .i64 0) (.int .i64 0) (.int .i64 0) (.int .i64 0) (.int .i64 0) (.int .i64 0) (.int .i64 0) (.int .i64 0) (.int .i64 0) (.int .i64 0) (.int .i64 0))
  have F_x_r := Lib.hid (far_set11 Kx.out (Nr_x.out.symm) (.int .i64 0) (.int .i64 0) (.int .i64 0) (.int .i64 0) (.int .i64 0) (.int .i64 0) (.int .i64 0) (.int .i64 0) (.int .i64 0) (.int .i64 0) (.int .i64 0))
  have B_x := Lib.hid (below_set3 (g := (w.heap.size + 1 + 1)) B_r.out HBx.out (.int .i64 0) (.int .i64 0) (.int .i64 0))
  have S_x := Lib.hid (bk_set3 F_x_r.out (.int .i64 0) (.int .i64 0) (.int .i64 0))
  have F_r_x := Lib.hid (far_set3 S_r.out (Nr_x.out) (.int .i64 0) (.int .i64 0) (.int .i64 0))
  unfold set11 set3 at B_x
  go_wp2
  obtain ⟨rr_0, rr_1, rr_2, rr_3, rr_4, rr_5, rr_6, rr_7, rr_8, rr_9, rr_10⟩ := Bk.c11 (F_r_x.out)
  obtain ⟨rx_0, rx_1, rx_2⟩ := Bk.c3 (S_x.out)
  unfold set11 set3 at rr_0 rr_1 rr_2 rr_3 rr_4 rr_5 rr_6 rr_7 rr_8 rr_9 rr_10 rx_0 rx_1 rx_2
  exact bodyPost_ret (v := .tuple #[.agg #[.int .i64 0, .int .i64 0, .int .i64 0, .int .i64 0, .int .i64 0, .int .i64 0, .int .i64 0, .int .i64 0, .int .i64 0, .int .i64 0, .int .i64 0], .agg #[.int .i64 0, .int .i64 0, .int .i64 0], .int .i64 0, .int .i64 1]) (by simp [results, Tryd.results12, go_sem, rr_0, rr_1, rr_2, rr_3, rr_4, rr_5, rr_6, rr_7, rr_8, rr_9, rr_10, rx_0, rx_1, rx_2]) rfl ⟨rfl, B_x.out⟩

set_option maxRecDepth 100000 in
set_option maxHeartbeats 8000000 in
theorem slice_4 (t : Tk) (A : Option Addr) (n c : Nat) (p : List I3) (b : Int) (w : World) (hp : Prog w A n c p) (h : okF t p) (hb1 : 1 ≤ b) (hb2 : b ≤ 100) : Calls Tryd.prog 12 #[.agg (tc t), .slice A n c, .int .i64 b] w (RetB (.tuple #[.agg (tc (sliceR t p b).1), vI (sliceR t p b).2.1, .int .i64 (sliceR t p b).2.2.1, .int .i64 (sliceR t p b).2.2.2]) w) := by
  have HP := Lib.hid hp
  clear hp
  obtain ⟨m, rfl⟩ : ∃ m : Nat, b = m := ⟨b.toNat, by omega⟩
  rw [sliceR_yes h (by omega) (by omega)]
  have HC := Lib.hid (fun (W : World) (h : Below w.heap.size w W) => fits_any t A n c p W (HP.out.below h))
  have HR := Lib.hid (okFB_yes h)
  have HO := Lib.hid h
  have hm1 : 1 ≤ m := by omega
  have hm2 : m ≤ 100 := by omega
  clear h hb1 hb2
  obtain ⟨⟨⟨z0, z1, z2, z3, z4, z5, z6, z7, z8, z9, z10⟩, ⟨zo, za, zb⟩, zn, ze⟩, hR⟩ : ∃ R, runR p m 0 t = R := ⟨_, rfl⟩
  rw [hR]
  have HRR := Lib.hid hR
  clear hR
  have HU : Hid (∀ (T : Tk) (W : World), okF T p → Below w.heap.size w W → Calls Tryd.prog 25 #[.agg (tc T), .slice A n c] W (RetB (.tuple #[.agg (tc (unitR T p).1), vI (unitR T p).2.1, .int .i64 (unitR T p).2.2]) W)) := Lib.hid (fun T W k h => unit_any T A n c p W (HP.out.below h) k.num)
  obtain ⟨T0, hT0⟩ : ∃ T, t = T := ⟨_, rfl⟩
  rw [hT0] at HO HRR
  have HT0 := Lib.hid hT0
  clear hT0
  obtain ⟨id, tn, pg, pc, un, k0, k1, k2, k3, st, rn⟩ := t
  unfold tc at HC
  unfold tc vI
  dsimp only at HC ⊢
  obtain ⟨kb0, kb1, kb2, hb0⟩ := lies3 w #[.int .i64 id, .int .i64 tn, .int .i64 pg, .int .i64 pc, .int .i64 un, .int .i64 k0, .int .i64 k1, .int .i64 k2, .int .i64 k3, .int .i64 st, .int .i64 rn] #[.int .i64 0, .int .i64 0, .int .i64 0, .int .i64 0, .int .i64 0, .int .i64 0, .int .i64 0, .int .i64 0, .int .i64 0, .int .i64 0, .int .i64 0] #[.int .i64 0, .int .i64 0, .int .i64 0] 24 24 28
  obtain ⟨V, hV⟩ : ∃ V, ((w.alloc (.cells #[.int .i64 id, .int .i64 tn, .int .i64 pg, .int .i64 pc, .int .i64 un, .int .i64 k0, .int .i64 k1, .int .i64 k2, .int .i64 k3, .int .i64 st, .int .i64 rn] 24)).alloc (.cells #[.int .i64 0, .int .i64 0, .int .i64 0, .int .i64 0, .int .i64 0, .int .i64 0, .int .i64 0, .int .i64 0, .int .i64 0, .int .i64 0, .int .i64 0] 24)).alloc (.cells #[.int .i64 0, .int .i64 0, .int .i64 0] 28) = V := ⟨_, rfl⟩
  rw [hV] at hb0 kb0 kb1 kb2
  have HV := Lib.hid hV
  have BB := Lib.hid hb0
  have Kt := Lib.hid kb0
  have HBt : Hid (w.heap.size ≤ w.heap.size) := Lib.hid (by omega)
  have Kr := Lib.hid kb1
  have HBr : Hid (w.heap.size ≤ (w.heap.size + 1)) := Lib.hid (by omega)
  have Nt_r : Hid (w.heap.size ≠ (w.heap.size + 1)) := Lib.hid (by omega)
  have Kx := Lib.hid kb2
  have HBx : Hid (w.heap.size ≤ (w.heap.size + 1 + 1)) := Lib.hid (by omega)
  have Nt_x : Hid (w.heap.size ≠ (w.heap.size + 1 + 1)) := Lib.hid (by omega)
  have Nr_x : Hid ((w.heap.size + 1) ≠ (w.heap.size + 1 + 1)) := Lib.hid (by omega)
  clear hV hb0 kb0 kb1 kb2
  go_enter Tryd.func12, Tryd.ntmps12
  go_upto_region 1 with fail
  rw [HV.out]
  clear HV
  obtain ⟨qt_0, qt_1, qt_2, qt_3, qt_4, qt_5, qt_6, qt_7, qt_8, qt_9, qt_10⟩ := Kt.out.c11
  have lt := Kt.out.lt
  go_wp2_with fail
  refine (HC.out _ BB.out).mono ?_
  rw [HR.out]
  rintro e U1 ⟨rfl, bU1⟩
  clear qt_0 qt_1 qt_2 qt_3 qt_4 qt_5 qt_6 qt_7 qt_8 qt_9 qt_10 lt
  replace BB := Lib.hid (below3 BB.out bU1)
  replace Kt := Lib.hid (Kt.out.below bU1 Kt.out.lt)
  replace Kr := Lib.hid (Kr.out.below bU1 Kr.out.lt)
  replace Kx := Lib.hid (Kx.out.below bU1 Kx.out.lt)
  clear bU1
  have II : Hid (SlI w _ T0) := Lib.hid ⟨HT0.out ▸ Kt.out, Kr.out, Kx.out, BB.out⟩
  clear HT0 HC Kt Kr Kx BB
  go_wp2_with fail
  go_loopw [10] (fun v wr => ∃ (j : Nat) (T : Tk), j < m ∧ v = .int .i64 (j + 1) ∧ Hid (okF T p) ∧ Hid (runR p (m - j) j T = ⟨⟨z0, z1, z2, z3, z4, z5, z6, z7, z8, z9, z10⟩, ⟨zo, za, zb⟩, zn, ze⟩) ∧ Hid (SlI w wr T)) (fun v _ => m + 1 - (intOf v).toNat)
  case atStart => exact ⟨0, T0, by omega, rfl, HO, HRR, II⟩
  case round =>
    rename World => wr
    obtain ⟨j, T, hj, rfl, HOj, HRj, HI⟩ := hrel
    clear II HO HRR
    have HUj := Lib.hid (HU.out T)
    have HK := Lib.hid (unit_keeps (t := T) (p := p) HOj.out)
    have HZ := Lib.hid (unit_zero (t := T) (p := p) HOj.out)
    obtain ⟨i, hi⟩ : ∃ i, m - j = i + 1 := ⟨m - j - 1, by omega⟩
    rw [hi] at HRj
    have RE := Lib.hid (fun q => (runR_err (t := T) (p := p) (k := i) (n := j) q).symm.trans HRj.out)
    have RA := Lib.hid (fun q r => (runR_ask (t := T) (p := p) (k := i) (n := j) q r).symm.trans HRj.out)
    have RG := Lib.hid (fun q r => (runR_go (t := T) (p := p) (k := i) (n := j) q r).symm.trans HRj.out)
    have HUk := Lib.hid (fun W h => HUj.out W HOj.out h)
    generalize unitR T p = u at HUk HK HZ RE RA RG
    obtain ⟨U, X, ue⟩ := u
    obtain ⟨TN, hTN⟩ : ∃ T, U = T := ⟨_, rfl⟩
    obtain ⟨X1, hX1⟩ : ∃ T, X = T := ⟨_, rfl⟩
    dsimp only at HUk HK HZ RE RA RG
    rw [hTN] at HK RA RG
    rw [hX1] at HZ RA RG
    have HTN := Lib.hid hTN
    have HX1 := Lib.hid hX1
    clear hTN hX1 HUj HRj HOj
    obtain ⟨y0, y1, y2, y3, y4, y5, y6, y7, y8, y9, y10⟩ := U
    obtain ⟨xo, xa, xb⟩ := X
    unfold tc vI at HUk
    dsimp only at HUk
    have Kt := Lib.hid HI.out.t
    have Kr := Lib.hid HI.out.r
    have Kx := Lib.hid HI.out.x
    have BB := Lib.hid HI.out.b
    have HBt : Hid (w.heap.size ≤ w.heap.size) := Lib.hid (by omega)
    have HBr : Hid (w.heap.size ≤ (w.heap.size + 1)) := Lib.hid (by omega)
    have HBx : Hid (w.heap.size ≤ (w.heap.size + 1 + 1)) := Lib.hid (by omega)
    have Nt_r : Hid (w.heap.size ≠ (w.heap.size + 1)) := Lib.hid (by omega)
    have Nt_x : Hid (w.heap.size ≠ (w.heap.size + 1 + 1)) := Lib.hid (by omega)
    have Nr_x : Hid ((w.heap.size + 1) ≠ (w.heap.size + 1 + 1)) := Lib.hid (by omega)
    clear HI
    obtain ⟨id, tn, pg, pc, un, k0, k1, k2, k3, st, rn⟩ := T
    unfold tc at Kt
    unfold tc zT at Kr
    dsimp only at HUk Kt Kr
    obtain ⟨qt_0, qt_1, qt_2, qt_3, qt_4, qt_5, qt_6, qt_7, qt_8, qt_9, qt_10⟩ := Kt.out.c11
    have lt := Kt.out.lt
    go_wp2_with fail
    refine (HUk.out _ BB.out).mono ?_
    rintro e U1 ⟨rfl, bU1⟩
    clear qt_0 qt_1 qt_2 qt_3 qt_4 qt_5 qt_6 qt_7 qt_8 qt_9 qt_10 lt
    replace BB := Lib.hid (below3 BB.out bU1)
    replace Kt := Lib.hid (Kt.out.below bU1 Kt.out.lt)
    replace Kr := Lib.hid (Kr.out.below bU1 Kr.out.lt)
    replace Kx := Lib.hid (Kx.out.below bU1 Kx.out.lt)
    clear bU1
    obtain ⟨kn, km, ba⟩ := lies2 U1 #[.int .i64 y0, .int .i64 y1, .int .i64 y2, .int .i64 y3, .int .i64 y4, .int .i64 y5, .int .i64 y6, .int .i64 y7, .int .i64 y8, .int .i64 y9, .int .i64 y10] #[.int .i64 xo, .int .i64 xa, .int .i64 xb] 24 28
    have hgb := BB.out.size
    have nt_a := Kt.out.lt
    have nr_a := Kr.out.lt
    have nx_a := Kx.out.lt
    replace BB := Lib.hid (below3 BB.out ba)
    replace Kt := Lib.hid (Kt.out.below ba Kt.out.lt)
    replace Kr := Lib.hid (Kr.out.below ba Kr.out.lt)
    replace Kx := Lib.hid (Kx.out.below ba Kx.out.lt)
    obtain ⟨ga, hg⟩ : ∃ g, U1.heap.size = g := ⟨_, rfl⟩
    obtain ⟨V2, hW⟩ : ∃ W, (U1.alloc (.cells #[.int .i64 y0, .int .i64 y1, .int .i64 y2, .int .i64 y3, .int .i64 y4, .int .i64 y5, .int .i64 y6, .int .i64 y7, .int .i64 y8, .int .i64 y9, .int .i64 y10] 24)).alloc (.cells #[.int .i64 xo, .int .i64 xa, .int .i64 xb] 28) = W := ⟨_, rfl⟩
    rw [hW] at BB kn km Kt Kr Kx
    rw [hg] at kn km hgb nt_a nr_a nx_a
    have Ka := Lib.hid kn
    have Ke := Lib.hid km
    have HGa := Lib.hid hg
    have HWa := Lib.hid hW
    have HBa := Lib.hid hgb
    have HBe : Hid (w.heap.size ≤ ga + 1) := Lib.hid (by omega)
    have Na_e : Hid (ga ≠ ga + 1) := Lib.hid (by omega)
    have Nt_a : Hid (w.heap.size ≠ ga) := Lib.hid (by omega)
    have Nt_e : Hid (w.heap.size ≠ ga + 1) := Lib.hid (by omega)
    have Nr_a : Hid ((w.heap.size + 1) ≠ ga) := Lib.hid (by omega)
    have Nr_e : Hid ((w.heap.size + 1) ≠ ga + 1) := Lib.hid (by omega)
    have Nx_a : Hid ((w.heap.size + 1 + 1) ≠ ga) := Lib.hid (by omega)
    have Nx_e : Hid ((w.heap.size + 1 + 1) ≠ ga + 1) := Lib.hid (by omega)
    clear hW hg kn km ba hgb nt_a nr_a nx_a
    go_upto_region 6 with fail
    rw [HWa.out]
    try rw [HGa.out]
    clear HWa HGa
    obtain ⟨qa_0, qa_1, qa_2, qa_3, qa_4, qa_5, qa_6, qa_7, qa_8, qa_9, qa_10⟩ := Ka.out.c11
    have la := Ka.out.lt
    obtain ⟨qe_0, qe_1, qe_2⟩ := Ke.out.c3
    have le := Ke.out.lt
    by_cases he : ue = 0
    · subst he
      clear RE
      by_cases hx : xo = 0
      · by_cases hne : j + 1 = m
        · subst hx
          have e2 : ((0 : Int) != 0) = false := rfl
          have hz0 := HZ.out rfl (by rw [← HX1.out])
          have hz := RG.out rfl (by rw [← HX1.out])
          obtain rfl : i = 0 := by omega
          rw [runR, ← HTN.out] at hz
          rw [← HX1.out] at hz0
          injection hz0 with d0 d1
          injection d1 with d1 d2
          subst d1 d2
          injection hz with h1 h2
          injection h1 with a0 a1 a2 a3 a4 a5 a6 a7 a8 a9 a10
          unfold zI at h2
          injection h2 with h2 h3
          injection h2 with b0 b1
          injection b1 with b1 b2
          injection h3 with c0 c1
          subst a0 a1 a2 a3 a4 a5 a6 a7 a8 a9 a10 b0 b1 b2 c0 c1
          have e4 : (((j : Int) + 1) == (m : Int)) = true := beq_iff_eq.2 (by omega)
          clear RG HK HZ HTN HX1
          clear qa_0 qa_1 qa_2 qa_3 qa_4 qa_5 qa_6 qa_7 qa_8 qa_9 qa_10 la qe_0 qe_1 qe_2 le
          obtain ⟨qa_0, qa_1, qa_2, qa_3, qa_4, qa_5, qa_6, qa_7, qa_8, qa_9, qa_10⟩ := Ka.out.c11
          have la := Ka.out.lt
          obtain ⟨qe_0, qe_1, qe_2⟩ := Ke.out.c3
          have le := Ke.out.lt
          have pr_a := Nr_a.out
          have px_a := Nx_a.out
          have pr_e := Nr_e.out
          have px_e := Nx_e.out
          have pa_e := Na_e.out
          have HJ : Hid ((j : Int) + 1 = (m : Int)) := Lib.hid (by omega)
          obtain ⟨qr_0, qr_1, qr_2, qr_3, qr_4, qr_5, qr_6, qr_7, qr_8, qr_9, qr_10⟩ := Kr.out.c11
          have lr := Kr.out.lt
          obtain ⟨fr_0, fr_1, fr_2, fr_3, fr_4, fr_5, fr_6, fr_7, fr_8, fr_9, fr_10⟩ := Kr.out.f11
          obtain ⟨qx_0, qx_1, qx_2⟩ := Kx.out.c3
          have lx := Kx.out.lt
          obtain ⟨fx_0, fx_1, fx_2⟩ := Kx.out.f3
          have B_r := Lib.hid (below_set11 (g := (w.heap.size + 1)) BB.out HBr.out (.int .i64 y0) (.int .i64 y1) (.int .i64 y2) (.int .i64 y3) (.int .i64 y4) (.int .i64 y5) (.int .i64 y6) (.int .i64 y7) (.int .i64 y8) (.int .i64 y9) (.int .i64 y10))
          have S_r := Lib.hid (bk_set11 Kr.out (.int .i64 y0) (.int .i64 y1) (.int .i64 y2) (.int .i64 y3) (.int .i64 y4) (.int .i64 y5) (.int .i64 y6) (.int .i64 y7) (.int .i64 y8) (.int .i64 y9) (.int .i64 y10))
          have F_x_r := Lib.hid (far_set11 Kx.out (Nr_x.out.symm) (.int .i64 y0) (.int .i64 y1) (.int .i64 y2) (.int .i64 y3) (.int .i64 y4) (.int .i64 y5) (.int .i64 y6) (.int .i64 y7) (.int .i64 y8) (.int .i64 y9) (.int .i64 y10))
          have B_x := Lib.hid (below_set3 (g := (w.heap.size + 1 + 1)) B_r.out HBx.out (.int .i64 0) (.int .i64 0) (.int .i64 0))
          have S_x := Lib.hid (bk_set3 F_x_r.out (.int .i64 0) (.int .i64 0) (.int .i64 0))
          have F_r_x := Lib.hid (far_set3 S_r.out (Nr_x.out) (.int .i64 0) (.int .i64 0) (.int .i64 0))
          unfold set11 set3 at B_x
          go_upto_region 9 with fail
          go_region
          go_wp2
          obtain ⟨rr_0, rr_1, rr_2, rr_3, rr_4, rr_5, rr_6, rr_7, rr_8, rr_9, rr_10⟩ := Bk.c11 (F_r_x.out.drew)
          obtain ⟨rx_0, rx_1, rx_2⟩ := Bk.c3 (S_x.out.drew)
          unfold set11 set3 at rr_0 rr_1 rr_2 rr_3 rr_4 rr_5 rr_6 rr_7 rr_8 rr_9 rr_10 rx_0 rx_1 rx_2
          exact bodyPost_ret (v := .tuple #[.agg #[.int .i64 y0, .int .i64 y1, .int .i64 y2, .int .i64 y3, .int .i64 y4, .int .i64 y5, .int .i64 y6, .int .i64 y7, .int .i64 y8, .int .i64 y9, .int .i64 y10], .agg #[.int .i64 0, .int .i64 0, .int .i64 0], .int .i64 ((j : Int) + 1), .int .i64 0]) (by simp [results, Tryd.results12, go_sem, rr_0, rr_1, rr_2, rr_3, rr_4, rr_5, rr_6, rr_7, rr_8, rr_9, rr_10, rx_0, rx_1, rx_2]) rfl ⟨by rw [HJ.out], B_x.out.drew⟩
        · subst hx
          have e4 : (((j : Int) + 1) == (m : Int)) = false := beq_eq_false_iff_ne.2 (by omega)
          have RG2 := Lib.hid (RG.out rfl (by rw [← HX1.out]))
          have OK2 := Lib.hid (HK.out rfl)
          clear RA RG HK HZ
          clear qa_0 qa_1 qa_2 qa_3 qa_4 qa_5 qa_6 qa_7 qa_8 qa_9 qa_10 la qe_0 qe_1 qe_2 le
          obtain ⟨qa_0, qa_1, qa_2, qa_3, qa_4, qa_5, qa_6, qa_7, qa_8, qa_9, qa_10⟩ := Ka.out.c11
          have la := Ka.out.lt
          obtain ⟨fa_0, fa_1, fa_2, fa_3, fa_4, fa_5, fa_6, fa_7, fa_8, fa_9, fa_10⟩ := Ka.out.f11
          obtain ⟨qt_0, qt_1, qt_2, qt_3, qt_4, qt_5, qt_6, qt_7, qt_8, qt_9, qt_10⟩ := Kt.out.c11
          have lt := Kt.out.lt
          obtain ⟨ft_0, ft_1, ft_2, ft_3, ft_4, ft_5, ft_6, ft_7, ft_8, ft_9, ft_10⟩ := Kt.out.f11
          obtain ⟨qe_0, qe_1, qe_2⟩ := Ke.out.c3
          have le := Ke.out.lt
          have x0 := bk_set11 Kt.out (.int .i64 y0) (.int .i64 y1) (.int .i64 y2) (.int .i64 y3) (.int .i64 y4) (.int .i64 y5) (.int .i64 y6) (.int .i64 y7) (.int .i64 y8) (.int .i64 y9) (.int .i64 y10)
          have xb := below_set11 (g := w.heap.size) BB.out HBt.out (.int .i64 y0) (.int .i64 y1) (.int .i64 y2) (.int .i64 y3) (.int .i64 y4) (.int .i64 y5) (.int .i64 y6) (.int .i64 y7) (.int .i64 y8) (.int .i64 y9) (.int .i64 y10)
          have x_r := far_set11 Kr.out Nt_r.out.symm (.int .i64 y0) (.int .i64 y1) (.int .i64 y2) (.int .i64 y3) (.int .i64 y4) (.int .i64 y5) (.int .i64 y6) (.int .i64 y7) (.int .i64 y8) (.int .i64 y9) (.int .i64 y10)
          have x_x := far_set11 Kx.out Nt_x.out.symm (.int .i64 y0) (.int .i64 y1) (.int .i64 y2) (.int .i64 y3) (.int .i64 y4) (.int .i64 y5) (.int .i64 y6) (.int .i64 y7) (.int .i64 y8) (.int .i64 y9) (.int .i64 y10)
          have x_a := far_set11 Ka.out Nt_a.out.symm (.int .i64 y0) (.int .i64 y1) (.int .i64 y2) (.int .i64 y3) (.int .i64 y4) (.int .i64 y5) (.int .i64 y6) (.int .i64 y7) (.int .i64 y8) (.int .i64 y9) (.int .i64 y10)
          have x_e := far_set11 Ke.out Nt_e.out.symm (.int .i64 y0) (.int .i64 y1) (.int .i64 y2) (.int .i64 y3) (.int .i64 y4) (.int .i64 y5) (.int .i64 y6) (.int .i64 y7) (.int .i64 y8) (.int .i64 y9) (.int .i64 y10)
          obtain ⟨S1, hX⟩ : ∃ X, set11 V2 w.heap.size (.int .i64 y0) (.int .i64 y1) (.int .i64 y2) (.int .i64 y3) (.int .i64 y4) (.int .i64 y5) (.int .i64 y6) (.int .i64 y7) (.int .i64 y8) (.int .i64 y9) (.int .i64 y10) = X := ⟨_, rfl⟩
          rw [hX] at x0 xb x_r x_x x_a x_e
          unfold set11 at hX
          have HX := Lib.hid hX
          replace Kt := Lib.hid x0
          replace BB := Lib.hid xb
          replace Kr := Lib.hid x_r
          replace Kx := Lib.hid x_x
          replace Ka := Lib.hid x_a
          replace Ke := Lib.hid x_e
          clear hX x0 xb x_r x_x x_a x_e
          go_upto_region 4 with fail
          rw [HX.out]
          clear HX
          clear qa_0 qa_1 qa_2 qa_3 qa_4 qa_5 qa_6 qa_7 qa_8 qa_9 qa_10 la fa_0 fa_1 fa_2 fa_3 fa_4 fa_5 fa_6 fa_7 fa_8 fa_9 fa_10 qt_0 qt_1 qt_2 qt_3 qt_4 qt_5 qt_6 qt_7 qt_8 qt_9 qt_10 lt ft_0 ft_1 ft_2 ft_3 ft_4 ft_5 ft_6 ft_7 ft_8 ft_9 ft_10 qe_0 qe_1 qe_2 le
          have II2 : Hid (SlI w S1 TN) := Lib.hid ⟨HTN.out ▸ Kt.out, Kr.out, Kx.out, BB.out⟩
          have hjm : j + 1 < m := by omega
          clear Kt Kr Kx Ka Ke BB HTN HX1 hne
          have hi2 : m - (j + 1) = i := by omega
          go_wp2_with fail
          go_roundw
          case rel => exact ⟨j + 1, TN, by omega, by go_num, OK2, by rw [hi2]; exact RG2, II2⟩
          case measure => simp [intOf]; omega
      · have hz := RA.out rfl (by rw [← HX1.out]; exact hx)
        rw [← HTN.out, ← HX1.out] at hz
        injection hz with h1 h2
        injection h1 with a0 a1 a2 a3 a4 a5 a6 a7 a8 a9 a10
        injection h2 with h2 h3
        injection h2 with b0 b1
        injection b1 with b1 b2
        injection h3 with c0 c1
        subst a0 a1 a2 a3 a4 a5 a6 a7 a8 a9 a10 b0 b1 b2 c0 c1
        have e2 : (xo != 0) = true := by simpa using hx
        have e3 : (xo == 0) = false := by simpa using hx
        clear RA RG HK HZ hx HTN HX1
        clear qa_0 qa_1 qa_2 qa_3 qa_4 qa_5 qa_6 qa_7 qa_8 qa_9 qa_10 la qe_0 qe_1 qe_2 le
        obtain ⟨qa_0, qa_1, qa_2, qa_3, qa_4, qa_5, qa_6, qa_7, qa_8, qa_9, qa_10⟩ := Ka.out.c11
        have la := Ka.out.lt
        obtain ⟨qe_0, qe_1, qe_2⟩ := Ke.out.c3
        have le := Ke.out.lt
        have pr_a := Nr_a.out
        have px_a := Nx_a.out
        have pr_e := Nr_e.out
        have px_e := Nx_e.out
        have pt_r := Nt_r.out
        have pt_x := Nt_x.out
        have pa_e := Na_e.out
        obtain ⟨qr_0, qr_1, qr_2, qr_3, qr_4, qr_5, qr_6, qr_7, qr_8, qr_9, qr_10⟩ := Kr.out.c11
        have lr := Kr.out.lt
        obtain ⟨fr_0, fr_1, fr_2, fr_3, fr_4, fr_5, fr_6, fr_7, fr_8, fr_9, fr_10⟩ := Kr.out.f11
        obtain ⟨qx_0, qx_1, qx_2⟩ := Kx.out.c3
        have lx := Kx.out.lt
        obtain ⟨fx_0, fx_1, fx_2⟩ := Kx.out.f3
        have B_r := Lib.hid (below_set11 (g := (w.heap.size + 1)) BB.out HBr.out (.int .i64 y0) (.int .i64 y1) (.int .i64 y2) (.int .i64 y3) (.int .i64 y4) (.int .i64 y5) (.int .i64 y6) (.int .i64 y7) (.int .i64 y8) (.int .i64 y9) (.int .i64 y10))
        have S_r := Lib.hid (bk_set11 Kr.out (.int .i64 y0) (.int .i64 y1) (.int .i64 y2) (.int .i64 y3) (.int .i64 y4) (.int .i64 y5) (.int .i64 y6) (.int .i64 y7) (.int .i64 y8) (.int .i64 y9) (.int .i64 y10))
        have F_x_r := Lib.hid (far_set11 Kx.out (Nr_x.out.symm) (.int .i64 y0) (.int .i64 y1) (.int .i64 y2) (.int .i64 y3) (.int .i64 y4) (.int .i64 y5) (.int .i64 y6) (.int .i64 y7) (.int .i64 y8) (.int .i64 y9) (.int .i64 y10))
        have B_x := Lib.hid (below_set3 (g := (w.heap.size + 1 + 1)) B_r.out HBx.out (.int .i64 xo) (.int .i64 xa) (.int .i64 xb))
        have S_x := Lib.hid (bk_set3 F_x_r.out (.int .i64 xo) (.int .i64 xa) (.int .i64 xb))
        have F_r_x := Lib.hid (far_set3 S_r.out (Nr_x.out) (.int .i64 xo) (.int .i64 xa) (.int .i64 xb))
        unfold set11 set3 at B_x
        go_upto_region 9 with fail
        go_region
        go_wp2
        obtain ⟨rr_0, rr_1, rr_2, rr_3, rr_4, rr_5, rr_6, rr_7, rr_8, rr_9, rr_10⟩ := Bk.c11 (F_r_x.out.drew)
        obtain ⟨rx_0, rx_1, rx_2⟩ := Bk.c3 (S_x.out.drew)
        unfold set11 set3 at rr_0 rr_1 rr_2 rr_3 rr_4 rr_5 rr_6 rr_7 rr_8 rr_9 rr_10 rx_0 rx_1 rx_2
        exact bodyPost_ret (v := .tuple #[.agg #[.int .i64 y0, .int .i64 y1, .int .i64 y2, .int .i64 y3, .int .i64 y4, .int .i64 y5, .int .i64 y6, .int .i64 y7, .int .i64 y8, .int .i64 y9, .int .i64 y10], .agg #[.int .i64 xo, .int .i64 xa, .int .i64 xb], .int .i64 ((j : Int) + 1), .int .i64 0]) (by simp [results, Tryd.results12, go_sem, rr_0, rr_1, rr_2, rr_3, rr_4, rr_5, rr_6, rr_7, rr_8, rr_9, rr_10, rx_0, rx_1, rx_2]) rfl ⟨rfl, B_x.out.drew⟩
    · have hz := RE.out he
      injection hz with h1 h2
      unfold zT at h1
      unfold zI at h2
      injection h1 with a0 a1 a2 a3 a4 a5 a6 a7 a8 a9 a10
      injection h2 with h2 h3
      injection h2 with b0 b1
      injection b1 with b1 b2
      injection h3 with c0 c1
      subst a0 a1 a2 a3 a4 a5 a6 a7 a8 a9 a10 b0 b1 b2 c0 c1
      have e1 : (ue != 0) = true := by simpa using he
      clear RE RA RG HK HZ he
      clear qa_0 qa_1 qa_2 qa_3 qa_4 qa_5 qa_6 qa_7 qa_8 qa_9 qa_10 la qe_0 qe_1 qe_2 le
      obtain ⟨qr_0, qr_1, qr_2, qr_3, qr_4, qr_5, qr_6, qr_7, qr_8, qr_9, qr_10⟩ := Kr.out.c11
      have lr := Kr.out.lt
      obtain ⟨fr_0, fr_1, fr_2, fr_3, fr_4, fr_5, fr_6, fr_7, fr_8, fr_9, fr_10⟩ := Kr.out.f11
      obtain ⟨qx_0, qx_1, qx_2⟩ := Kx.out.c3
      have lx := Kx.out.lt
      obtain ⟨fx_0, fx_1, fx_2⟩ := Kx.out.f3
      have B_r := Lib.hid (below_set11 (g := (w.heap.size + 1)) BB.out HBr.out (.int .i64 0) (.int .i64 0) (.int .i64 0) (.int .i64 0) (.int .i64 0) (.int .i64 0) (.int .i64 0) (.int .i64 0) (.int .i64 0) (.int .i64 0) (.int .i64 0))
      have S_r := Lib.hid (bk_set11 Kr.out (.int .i64 0) (.int .i64 0) (.int .i64 0) (.int .i64 0) (.int .i64 0) (.int .i64 0) (.int .i64 0) (.int .i64 0) (.int .i64 0) (.int .i64 0) (.int .i64 0))
      have F_x_r := Lib.hid (far_set11 Kx.out (Nr_x.out.symm) (.int .i64 0) (.int .i64 0) (.int .i64 0) (.int .i64 0) (.int .i64 0) (.int .i64 0) (.int .i64 0) (.int .i64 0) (.int .i64 0) (.int .i64 0) (.int .i64 0))
      have B_x := Lib.hid (below_set3 (g := (w.heap.size + 1 + 1)) B_r.out HBx.out (.int .i64 0) (.int .i64 0) (.int .i64 0))
      have S_x := Lib.hid (bk_set3 F_x_r.out (.int .i64 0) (.int .i64 0) (.int .i64 0))
      have F_r_x := Lib.hid (far_set3 S_r.out (Nr_x.out) (.int .i64 0) (.int .i64 0) (.int .i64 0))
      unfold set11 set3 at B_x
      go_wp2
      obtain ⟨rr_0, rr_1, rr_2, rr_3, rr_4, rr_5, rr_6, rr_7, rr_8, rr_9, rr_10⟩ := Bk.c11 (F_r_x.out)
      obtain ⟨rx_0, rx_1, rx_2⟩ := Bk.c3 (S_x.out)
      unfold set11 set3 at rr_0 rr_1 rr_2 rr_3 rr_4 rr_5 rr_6 rr_7 rr_8 rr_9 rr_10 rx_0 rx_1 rx_2
      exact bodyPost_ret (v := .tuple #[.agg #[.int .i64 0, .int .i64 0, .int .i64 0, .int .i64 0, .int .i64 0, .int .i64 0, .int .i64 0, .int .i64 0, .int .i64 0, .int .i64 0, .int .i64 0], .agg #[.int .i64 0, .int .i64 0, .int .i64 0], .int .i64 0, .int .i64 ue]) (by simp [results, Tryd.results12, go_sem, rr_0, rr_1, rr_2, rr_3, rr_4, rr_5, rr_6, rr_7, rr_8, rr_9, rr_10, rx_0, rx_1, rx_2]) rfl ⟨rfl, B_x.out⟩

theorem slice_any (t : Tk) (A : Option Addr) (n c : Nat) (p : List I3) (b : Int) (w : World) (hp : Prog w A n c p) : Calls Tryd.prog 12 #[.agg (tc t), .slice A n c, .int .i64 b] w (RetB (.tuple #[.agg (tc (sliceR t p b).1), vI (sliceR t p b).2.1, .int .i64 (sliceR t p b).2.2.1, .int .i64 (sliceR t p b).2.2.2]) w) := by
  by_cases h : okF t p
  · by_cases h1 : b < 1
    · exact slice_2 t A n c p b w hp h h1
    · by_cases h2 : 100 < b
      · exact slice_3 t A n c p b w hp h h2
      · exact slice_4 t A n c p b w hp h (by omega) (by omega)
  · exact slice_1 t A n c p b w hp h

set_option maxRecDepth 100000 in
set_option maxHeartbeats 4000000 in
theorem rslice_1 (t : Tk) (A : Option Addr) (n c : Nat) (p : List I3) (b : Int) (w : World) (hp : Prog w A n c p) (h : ¬ okF t p) : Calls Tryd.prog 13 #[.agg (tc t), .slice A n c, .int .i64 b] w (RetB (.tuple #[.agg (tc (sliceR t p b).1), vI (sliceR t p b).2.1, .int .i64 (sliceR t p b).2.2.1, .int .i64 (sliceR t p b).2.2.2]) w) := by
  have HP := Lib.hid hp
  clear hp
  rw [sliceR_no (fun q => h q.1)]
  have HC := Lib.hid (fun (W : World) (h : Below w.heap.size w W) => rfits_any t A n c p W (HP.out.below h))
  have HR := Lib.hid (okFB_no h)
  clear h
  obtain ⟨id, tn, pg, pc, un, k0, k1, k2, k3, st, rn⟩ := t
  unfold tc at HC
  unfold tc zT vI zI
  dsimp only at HC ⊢
  obtain ⟨kb0, kb1, kb2, hb0⟩ := lies3 w #[.int .i64 id, .int .i64 tn, .int .i64 pg, .int .i64 pc, .int .i64 un, .int .i64 k0, .int .i64 k1, .int .i64 k2, .int .i64 k3, .int .i64 st, .int .i64 rn] #[.int .i64 0, .int .i64 0, .int .i64 0, .int .i64 0, .int .i64 0, .int .i64 0, .int .i64 0, .int .i64 0, .int .i64 0, .int .i64 0, .int .i64 0] #[.int .i64 0, .int .i64 0, .int .i64 0] 24 24 28
  obtain ⟨V, hV⟩ : ∃ V, ((w.alloc (.cells #[.int .i64 id, .int .i64 tn, .int .i64 pg, .int .i64 pc, .int .i64 un, .int .i64 k0, .int .i64 k1, .int .i64 k2, .int .i64 k3, .int .i64 st, .int .i64 rn] 24)).alloc (.cells #[.int .i64 0, .int .i64 0, .int .i64 0, .int .i64 0, .int .i64 0, .int .i64 0, .int .i64 0, .int .i64 0, .int .i64 0, .int .i64 0, .int .i64 0] 24)).alloc (.cells #[.int .i64 0, .int .i64 0, .int .i64 0] 28) = V := ⟨_, rfl⟩
  rw [hV] at hb0 kb0 kb1 kb2
  have HV := Lib.hid hV
  have BB := Lib.hid hb0
  have Kt := Lib.hid kb0
  have HBt : Hid (w.heap.size ≤ w.heap.size) := Lib.hid (by omega)
  have Kr := Lib.hid kb1
  have HBr : Hid (w.heap.size ≤ (w.heap.size + 1)) := Lib.hid (by omega)
  have Nt_r : Hid (w.heap.size ≠ (w.heap.size + 1)) := Lib.hid (by omega)
  have Kx := Lib.hid kb2
  have HBx : Hid (w.heap.size ≤ (w.heap.size + 1 + 1)) := Lib.hid (by omega)
  have Nt_x : Hid (w.heap.size ≠ (w.heap.size + 1 + 1)) := Lib.hid (by omega)
  have Nr_x : Hid ((w.heap.size + 1) ≠ (w.heap.size + 1 + 1)) := Lib.hid (by omega)
  clear hV hb0 kb0 kb1 kb2
  go_enter Tryd.func13, Tryd.ntmps13
  go_upto_region 1 with fail
  rw [HV.out]
  clear HV
  obtain ⟨qt_0, qt_1, qt_2, qt_3, qt_4, qt_5, qt_6, qt_7, qt_8, qt_9, qt_10⟩ := Kt.out.c11
  have lt := Kt.out.lt
  go_wp2_with fail
  refine (HC.out _ BB.out).mono ?_
  rw [HR.out]
  rintro e U1 ⟨rfl, bU1⟩
  clear qt_0 qt_1 qt_2 qt_3 qt_4 qt_5 qt_6 qt_7 qt_8 qt_9 qt_10 lt
  replace BB := Lib.hid (below3 BB.out bU1)
  replace Kt := Lib.hid (Kt.out.below bU1 Kt.out.lt)
  replace Kr := Lib.hid (Kr.out.below bU1 Kr.out.lt)
  replace Kx := Lib.hid (Kx.out.below bU1 Kx.out.lt)
  clear bU1
  obtain ⟨qr_0, qr_1, qr_2, qr_3, qr_4, qr_5, qr_6, qr_7, qr_8, qr_9, qr_10⟩ := Kr.out.c11
  have lr := Kr.out.lt
  obtain ⟨fr_0, fr_1, fr_2, fr_3, fr_4, fr_5, fr_6, fr_7, fr_8, fr_9, fr_10⟩ := Kr.out.f11
  obtain ⟨qx_0, qx_1, qx_2⟩ := Kx.out.c3
  have lx := Kx.out.lt
  obtain ⟨fx_0, fx_1, fx_2⟩ := Kx.out.f3
  have B_r := Lib.hid (below_set11 (g := (w.heap.size + 1)) BB.out HBr.out (.int .i64 0) (.int .i64 0) (.int .i64 0) (.int .i64 0) (.int .i64 0) (.int .i64 0) (.int .i64 0) (.int .i64 0) (.int .i64 0) (.int .i64 0) (.int .i64 0))
  have S_r := Lib.hid (bk_set11 Kr.out (.int .i64 0) (.int .i64 0) (.int .i64 0) (.int .i64 0) (.int .i64 0) (.int .i64 0) (.int .i64 0) (.int .i64 0) (.int .i64 0) (.int .i64 0) (.int .i64 0))
  have F_x_r := Lib.hid (far_set11 Kx.out (Nr_x.out.symm) (.int .i64 0) (.int .i64 0) (.int .i64 0) (.int .i64 0) (.int .i64 0) (.int .i64 0) (.int .i64 0) (.int .i64 0) (.int .i64 0) (.int .i64 0) (.int .i64 0))
  have B_x := Lib.hid (below_set3 (g := (w.heap.size + 1 + 1)) B_r.out HBx.out (.int .i64 0) (.int .i64 0) (.int .i64 0))
  have S_x := Lib.hid (bk_set3 F_x_r.out (.int .i64 0) (.int .i64 0) (.int .i64 0))
  have F_r_x := Lib.hid (far_set3 S_r.out (Nr_x.out) (.int .i64 0) (.int .i64 0) (.int .i64 0))
  unfold set11 set3 at B_x
  go_wp2
  obtain ⟨rr_0, rr_1, rr_2, rr_3, rr_4, rr_5, rr_6, rr_7, rr_8, rr_9, rr_10⟩ := Bk.c11 (F_r_x.out)
  obtain ⟨rx_0, rx_1, rx_2⟩ := Bk.c3 (S_x.out)
  unfold set11 set3 at rr_0 rr_1 rr_2 rr_3 rr_4 rr_5 rr_6 rr_7 rr_8 rr_9 rr_10 rx_0 rx_1 rx_2
  exact bodyPost_ret (v := .tuple #[.agg #[.int .i64 0, .int .i64 0, .int .i64 0, .int .i64 0, .int .i64 0, .int .i64 0, .int .i64 0, .int .i64 0, .int .i64 0, .int .i64 0, .int .i64 0], .agg #[.int .i64 0, .int .i64 0, .int .i64 0], .int .i64 0, .int .i64 1]) (by simp [results, Tryd.results13, go_sem, rr_0, rr_1, rr_2, rr_3, rr_4, rr_5, rr_6, rr_7, rr_8, rr_9, rr_10, rx_0, rx_1, rx_2]) rfl ⟨rfl, B_x.out⟩

set_option maxRecDepth 100000 in
set_option maxHeartbeats 4000000 in
theorem rslice_2 (t : Tk) (A : Option Addr) (n c : Nat) (p : List I3) (b : Int) (w : World) (hp : Prog w A n c p) (h : okF t p) (hb : b < 1) : Calls Tryd.prog 13 #[.agg (tc t), .slice A n c, .int .i64 b] w (RetB (.tuple #[.agg (tc (sliceR t p b).1), vI (sliceR t p b).2.1, .int .i64 (sliceR t p b).2.2.1, .int .i64 (sliceR t p b).2.2.2]) w) := by
  have HP := Lib.hid hp
  clear hp
  rw [sliceR_no (fun q => by omega)]
  have HC := Lib.hid (fun (W : World) (h : Below w.heap.size w W) => rfits_any t A n c p W (HP.out.below h))
  have HR := Lib.hid (okFB_yes h)
  clear h
  obtain ⟨id, tn, pg, pc, un, k0, k1, k2, k3, st, rn⟩ := t
  unfold tc at HC
  unfold tc zT vI zI
  dsimp only at HC ⊢
  obtain ⟨kb0, kb1, kb2, hb0⟩ := lies3 w #[.int .i64 id, .int .i64 tn, .int .i64 pg, .int .i64 pc, .int .i64 un, .int .i64 k0, .int .i64 k1, .int .i64 k2, .int .i64 k3, .int .i64 st, .int .i64 rn] #[.int .i64 0, .int .i64 0, .int .i64 0, .int .i64 0, .int .i64 0, .int .i64 0, .int .i64 0, .int .i64 0, .int .i64 0, .int .i64 0, .int .i64 0] #[.int .i64 0, .int .i64 0, .int .i64 0] 24 24 28
  obtain ⟨V, hV⟩ : ∃ V, ((w.alloc (.cells #[.int .i64 id, .int .i64 tn, .int .i64 pg, .int .i64 pc, .int .i64 un, .int .i64 k0, .int .i64 k1, .int .i64 k2, .int .i64 k3, .int .i64 st, .int .i64 rn] 24)).alloc (.cells #[.int .i64 0, .int .i64 0, .int .i64 0, .int .i64 0, .int .i64 0, .int .i64 0, .int .i64 0, .int .i64 0, .int .i64 0, .int .i64 0, .int .i64 0] 24)).alloc (.cells #[.int .i64 0, .int .i64 0, .int .i64 0] 28) = V := ⟨_, rfl⟩
  rw [hV] at hb0 kb0 kb1 kb2
  have HV := Lib.hid hV
  have BB := Lib.hid hb0
  have Kt := Lib.hid kb0
  have HBt : Hid (w.heap.size ≤ w.heap.size) := Lib.hid (by omega)
  have Kr := Lib.hid kb1
  have HBr : Hid (w.heap.size ≤ (w.heap.size + 1)) := Lib.hid (by omega)
  have Nt_r : Hid (w.heap.size ≠ (w.heap.size + 1)) := Lib.hid (by omega)
  have Kx := Lib.hid kb2
  have HBx : Hid (w.heap.size ≤ (w.heap.size + 1 + 1)) := Lib.hid (by omega)
  have Nt_x : Hid (w.heap.size ≠ (w.heap.size + 1 + 1)) := Lib.hid (by omega)
  have Nr_x : Hid ((w.heap.size + 1) ≠ (w.heap.size + 1 + 1)) := Lib.hid (by omega)
  clear hV hb0 kb0 kb1 kb2
  go_enter Tryd.func13, Tryd.ntmps13
  go_upto_region 1 with fail
  rw [HV.out]
  clear HV
  obtain ⟨qt_0, qt_1, qt_2, qt_3, qt_4, qt_5, qt_6, qt_7, qt_8, qt_9, qt_10⟩ := Kt.out.c11
  have lt := Kt.out.lt
  go_wp2_with fail
  refine (HC.out _ BB.out).mono ?_
  rw [HR.out]
  rintro e U1 ⟨rfl, bU1⟩
  clear qt_0 qt_1 qt_2 qt_3 qt_4 qt_5 qt_6 qt_7 qt_8 qt_9 qt_10 lt
  replace BB := Lib.hid (below3 BB.out bU1)
  replace Kt := Lib.hid (Kt.out.below bU1 Kt.out.lt)
  replace Kr := Lib.hid (Kr.out.below bU1 Kr.out.lt)
  replace Kx := Lib.hid (Kx.out.below bU1 Kx.out.lt)
  clear bU1
  obtain ⟨qr_0, qr_1, qr_2, qr_3, qr_4, qr_5, qr_6, qr_7, qr_8, qr_9, qr_10⟩ := Kr.out.c11
  have lr := Kr.out.lt
  obtain ⟨fr_0, fr_1, fr_2, fr_3, fr_4, fr_5, fr_6, fr_7, fr_8, fr_9, fr_10⟩ := Kr.out.f11
  obtain ⟨qx_0, qx_1, qx_2⟩ := Kx.out.c3
  have lx := Kx.out.lt
  obtain ⟨fx_0, fx_1, fx_2⟩ := Kx.out.f3
  have B_r := Lib.hid (below_set11 (g := (w.heap.size + 1)) BB.out HBr.out (.int .i64 0) (.int .i64 0) (.int .i64 0) (.int .i64 0) (.int .i64 0) (.int .i64 0) (.int .i64 0) (.int .i64 0) (.int .i64 0) (.int .i64 0) (.int .i64 0))
  have S_r := Lib.hid (bk_set11 Kr.out (.int .i64 0) (.int .i64 0) (.int .i64 0) (.int .i64 0) (.int .i64 0) (.int .i64 0) (.int .i64 0) (.int .i64 0) (.int .i64 0) (.int .i64 0) (.int .i64 0))
  have F_x_r := Lib.hid (far_set11 Kx.out (Nr_x.out.symm) (.int .i64 0) (.int .i64 0) (.int .i64 0) (.int .i64 0) (.int .i64 0) (.int .i64 0) (.int .i64 0) (.int .i64 0) (.int .i64 0) (.int .i64 0) (.int .i64 0))
  have B_x := Lib.hid (below_set3 (g := (w.heap.size + 1 + 1)) B_r.out HBx.out (.int .i64 0) (.int .i64 0) (.int .i64 0))
  have S_x := Lib.hid (bk_set3 F_x_r.out (.int .i64 0) (.int .i64 0) (.int .i64 0))
  have F_r_x := Lib.hid (far_set3 S_r.out (Nr_x.out) (.int .i64 0) (.int .i64 0) (.int .i64 0))
  unfold set11 set3 at B_x
  go_wp2
  obtain ⟨rr_0, rr_1, rr_2, rr_3, rr_4, rr_5, rr_6, rr_7, rr_8, rr_9, rr_10⟩ := Bk.c11 (F_r_x.out)
  obtain ⟨rx_0, rx_1, rx_2⟩ := Bk.c3 (S_x.out)
  unfold set11 set3 at rr_0 rr_1 rr_2 rr_3 rr_4 rr_5 rr_6 rr_7 rr_8 rr_9 rr_10 rx_0 rx_1 rx_2
  exact bodyPost_ret (v := .tuple #[.agg #[.int .i64 0, .int .i64 0, .int .i64 0, .int .i64 0, .int .i64 0, .int .i64 0, .int .i64 0, .int .i64 0, .int .i64 0, .int .i64 0, .int .i64 0], .agg #[.int .i64 0, .int .i64 0, .int .i64 0], .int .i64 0, .int .i64 1]) (by simp [results, Tryd.results13, go_sem, rr_0, rr_1, rr_2, rr_3, rr_4, rr_5, rr_6, rr_7, rr_8, rr_9, rr_10, rx_0, rx_1, rx_2]) rfl ⟨rfl, B_x.out⟩

set_option maxRecDepth 100000 in
set_option maxHeartbeats 4000000 in
theorem rslice_3 (t : Tk) (A : Option Addr) (n c : Nat) (p : List I3) (b : Int) (w : World) (hp : Prog w A n c p) (h : okF t p) (hb : 100 < b) : Calls Tryd.prog 13 #[.agg (tc t), .slice A n c, .int .i64 b] w (RetB (.tuple #[.agg (tc (sliceR t p b).1), vI (sliceR t p b).2.1, .int .i64 (sliceR t p b).2.2.1, .int .i64 (sliceR t p b).2.2.2]) w) := by
  have HP := Lib.hid hp
  clear hp
  rw [sliceR_no (fun q => by omega)]
  have HC := Lib.hid (fun (W : World) (h : Below w.heap.size w W) => rfits_any t A n c p W (HP.out.below h))
  have HR := Lib.hid (okFB_yes h)
  have hb1 : ¬ b < 1 := by omega
  clear h
  obtain ⟨id, tn, pg, pc, un, k0, k1, k2, k3, st, rn⟩ := t
  unfold tc at HC
  unfold tc zT vI zI
  dsimp only at HC ⊢
  obtain ⟨kb0, kb1, kb2, hb0⟩ := lies3 w #[.int .i64 id, .int .i64 tn, .int .i64 pg, .int .i64 pc, .int .i64 un, .int .i64 k0, .int .i64 k1, .int .i64 k2, .int .i64 k3, .int .i64 st, .int .i64 rn] #[.int .i64 0, .int .i64 0, .int .i64 0, .int .i64 0, .int .i64 0, .int .i64 0, .int .i64 0, .int .i64 0, .int .i64 0, .int .i64 0, .int .i64 0] #[.int .i64 0, .int .i64 0, .int .i64 0] 24 24 28
  obtain ⟨V, hV⟩ : ∃ V, ((w.alloc (.cells #[.int .i64 id, .int .i64 tn, .int .i64 pg, .int .i64 pc, .int .i64 un, .int .i64 k0, .int .i64 k1, .int .i64 k2, .int .i64 k3, .int .i64 st, .int .i64 rn] 24)).alloc (.cells #[.int .i64 0, .int .i64 0, .int .i64 0, .int .i64 0, .int .i64 0, .int .i64 0, .int .i64 0, .int .i64 0, .int .i64 0, .int .i64 0, .int .i64 0] 24)).alloc (.cells #[.int .i64 0, .int .i64 0, .int .i64 0] 28) = V := ⟨_, rfl⟩
  rw [hV] at hb0 kb0 kb1 kb2
  have HV := Lib.hid hV
  have BB := Lib.hid hb0
  have Kt := Lib.hid kb0
  have HBt : Hid (w.heap.size ≤ w.heap.size) := Lib.hid (by omega)
  have Kr := Lib.hid kb1
  have HBr : Hid (w.heap.size ≤ (w.heap.size + 1)) := Lib.hid (by omega)
  have Nt_r : Hid (w.heap.size ≠ (w.heap.size + 1)) := Lib.hid (by omega)
  have Kx := Lib.hid kb2
  have HBx : Hid (w.heap.size ≤ (w.heap.size + 1 + 1)) := Lib.hid (by omega)
  have Nt_x : Hid (w.heap.size ≠ (w.heap.size + 1 + 1)) := Lib.hid (by omega)
  have Nr_x : Hid ((w.heap.size + 1) ≠ (w.heap.size + 1 + 1)) := Lib.hid (by omega)
  clear hV hb0 kb0 kb1 kb2
  go_enter Tryd.func13, Tryd.ntmps13
  go_upto_region 1 with fail
  rw [HV.out]
  clear HV
  obtain ⟨qt_0, qt_1, qt_2, qt_3, qt_4, qt_5, qt_6, qt_7, qt_8, qt_9, qt_10⟩ := Kt.out.c11
  have lt := Kt.out.lt
  go_wp2_with fail
  refine (HC.out _ BB.out).mono ?_
  rw [HR.out]
  rintro e U1 ⟨rfl, bU1⟩
  clear qt_0 qt_1 qt_2 qt_3 qt_4 qt_5 qt_6 qt_7 qt_8 qt_9 qt_10 lt
  replace BB := Lib.hid (below3 BB.out bU1)
  replace Kt := Lib.hid (Kt.out.below bU1 Kt.out.lt)
  replace Kr := Lib.hid (Kr.out.below bU1 Kr.out.lt)
  replace Kx := Lib.hid (Kx.out.below bU1 Kx.out.lt)
  clear bU1
  obtain ⟨qr_0, qr_1, qr_2, qr_3, qr_4, qr_5, qr_6, qr_7, qr_8, qr_9, qr_10⟩ := Kr.out.c11
  have lr := Kr.out.lt
  obtain ⟨fr_0, fr_1, fr_2, fr_3, fr_4, fr_5, fr_6, fr_7, fr_8, fr_9, fr_10⟩ := Kr.out.f11
  obtain ⟨qx_0, qx_1, qx_2⟩ := Kx.out.c3
  have lx := Kx.out.lt
  obtain ⟨fx_0, fx_1, fx_2⟩ := Kx.out.f3
  have B_r := Lib.hid (below_set11 (g := (w.heap.size + 1)) BB.out HBr.out (.int .i64 0) (.int .i64 0) (.int .i64 0) (.int .i64 0) (.int .i64 0) (.int .i64 0) (.int .i64 0) (.int .i64 0) (.int .i64 0) (.int .i64 0) (.int .i64 0))
  have S_r := Lib.hid (bk_set11 Kr.out (.int .i64 0) (.int .i64 0) (.int .i64 0) (.int .i64 0) (.int .i64 0) (.int .i64 0) (.int .i64 0) (.int .i64 0) (.int .i64 0) (.int .i64 0) (.int .i64 0))
  have F_x_r := Lib.hid (far_set11 Kx.out (Nr_x.out.symm) (.int .i64 0) (.int .i64 0) (.int .i64 0) (.int .i64 0) (.int .i64 0) (.int .i64 0) (.int .i64 0) (.int .i64 0) (.int .i64 0) (.int .i64 0) (.int .i64 0))
  have B_x := Lib.hid (below_set3 (g := (w.heap.size + 1 + 1)) B_r.out HBx.out (.int .i64 0) (.int .i64 0) (.int .i64 0))
  have S_x := Lib.hid (bk_set3 F_x_r.out (.int .i64 0) (.int .i64 0) (.int .i64 0))
  have F_r_x := Lib.hid (far_set3 S_r.out (Nr_x.out) (.int .i64 0) (.int .i64 0) (.int .i64 0))
  unfold set11 set3 at B_x
  go_wp2
  obtain ⟨rr_0, rr_1, rr_2, rr_3, rr_4, rr_5, rr_6, rr_7, rr_8, rr_9, rr_10⟩ := Bk.c11 (F_r_x.out)
  obtain ⟨rx_0, rx_1, rx_2⟩ := Bk.c3 (S_x.out)
  unfold set11 set3 at rr_0 rr_1 rr_2 rr_3 rr_4 rr_5 rr_6 rr_7 rr_8 rr_9 rr_10 rx_0 rx_1 rx_2
  exact bodyPost_ret (v := .tuple #[.agg #[.int .i64 0, .int .i64 0, .int .i64 0, .int .i64 0, .int .i64 0, .int .i64 0, .int .i64 0, .int .i64 0, .int .i64 0, .int .i64 0, .int .i64 0], .agg #[.int .i64 0, .int .i64 0, .int .i64 0], .int .i64 0, .int .i64 1]) (by simp [results, Tryd.results13, go_sem, rr_0, rr_1, rr_2, rr_3, rr_4, rr_5, rr_6, rr_7, rr_8, rr_9, rr_10, rx_0, rx_1, rx_2]) rfl ⟨rfl, B_x.out⟩

set_option maxRecDepth 100000 in
set_option maxHeartbeats 8000000 in
theorem rslice_4 (t : Tk) (A : Option Addr) (n c : Nat) (p : List I3) (b : Int) (w : World) (hp : Prog w A n c p) (h : okF t p) (hb1 : 1 ≤ b) (hb2 : b ≤ 100) : Calls Tryd.prog 13 #[.agg (tc t), .slice A n c, .int .i64 b] w (RetB (.tuple #[.agg (tc (sliceR t p b).1), vI (sliceR t p b).2.1, .int .i64 (sliceR t p b).2.2.1, .int .i64 (sliceR t p b).2.2.2]) w) := by
  have HP := Lib.hid hp
  clear hp
  obtain ⟨m, rfl⟩ : ∃ m : Nat, b = m := ⟨b.toNat, by omega⟩
  rw [sliceR_yes h (by omega) (by omega)]
  have HC := Lib.hid (fun (W : World) (h : Below w.heap.size w W) => rfits_any t A n c p W (HP.out.below h))
  have HR := Lib.hid (okFB_yes h)
  have HO := Lib.hid h
  have hm1 : 1 ≤ m := by omega
  have hm2 : m ≤ 100 := by omega
  clear h hb1 hb2
  obtain ⟨⟨⟨z0, z1, z2, z3, z4, z5, z6, z7, z8, z9, z10⟩, ⟨zo, za, zb⟩, zn, ze⟩, hR⟩ : ∃ R, runR p m 0 t = R := ⟨_, rfl⟩
  rw [hR]
  have HRR := Lib.hid hR
  clear hR
  have HU : Hid (∀ (T : Tk) (W : World), okF T p → Below w.heap.size w W → Calls Tryd.prog 11 #[.agg (tc T), .slice A n c] W (RetB (.tuple #[.agg (tc (unitR T p).1), vI (unitR T p).2.1, .int .i64 (unitR T p).2.2]) W)) := Lib.hid (fun T W k h => doR_yes k ▸ rdo_any T A n c p W (HP.out.below h))
  obtain ⟨T0, hT0⟩ : ∃ T, t = T := ⟨_, rfl⟩
  rw [hT0] at HO HRR
  have HT0 := Lib.hid hT0
  clear hT0
  obtain ⟨id, tn, pg, pc, un, k0, k1, k2, k3, st, rn⟩ := t
  unfold tc at HC
  unfold tc vI
  dsimp only at HC ⊢
  obtain ⟨kb0, kb1, kb2, hb0⟩ := lies3 w #[.int .i64 id, .int .i64 tn, .int .i64 pg, .int .i64 pc, .int .i64 un, .int .i64 k0, .int .i64 k1, .int .i64 k2, .int .i64 k3, .int .i64 st, .int .i64 rn] #[.int .i64 0, .int .i64 0, .int .i64 0, .int .i64 0, .int .i64 0, .int .i64 0, .int .i64 0, .int .i64 0, .int .i64 0, .int .i64 0, .int .i64 0] #[.int .i64 0, .int .i64 0, .int .i64 0] 24 24 28
  obtain ⟨V, hV⟩ : ∃ V, ((w.alloc (.cells #[.int .i64 id, .int .i64 tn, .int .i64 pg, .int .i64 pc, .int .i64 un, .int .i64 k0, .int .i64 k1, .int .i64 k2, .int .i64 k3, .int .i64 st, .int .i64 rn] 24)).alloc (.cells #[.int .i64 0, .int .i64 0, .int .i64 0, .int .i64 0, .int .i64 0, .int .i64 0, .int .i64 0, .int .i64 0, .int .i64 0, .int .i64 0, .int .i64 0] 24)).alloc (.cells #[.int .i64 0, .int .i64 0, .int .i64 0] 28) = V := ⟨_, rfl⟩
  rw [hV] at hb0 kb0 kb1 kb2
  have HV := Lib.hid hV
  have BB := Lib.hid hb0
  have Kt := Lib.hid kb0
  have HBt : Hid (w.heap.size ≤ w.heap.size) := Lib.hid (by omega)
  have Kr := Lib.hid kb1
  have HBr : Hid (w.heap.size ≤ (w.heap.size + 1)) := Lib.hid (by omega)
  have Nt_r : Hid (w.heap.size ≠ (w.heap.size + 1)) := Lib.hid (by omega)
  have Kx := Lib.hid kb2
  have HBx : Hid (w.heap.size ≤ (w.heap.size + 1 + 1)) := Lib.hid (by omega)
  have Nt_x : Hid (w.heap.size ≠ (w.heap.size + 1 + 1)) := Lib.hid (by omega)
  have Nr_x : Hid ((w.heap.size + 1) ≠ (w.heap.size + 1 + 1)) := Lib.hid (by omega)
  clear hV hb0 kb0 kb1 kb2
  go_enter Tryd.func13, Tryd.ntmps13
  go_upto_region 1 with fail
  rw [HV.out]
  clear HV
  obtain ⟨qt_0, qt_1, qt_2, qt_3, qt_4, qt_5, qt_6, qt_7, qt_8, qt_9, qt_10⟩ := Kt.out.c11
  have lt := Kt.out.lt
  go_wp2_with fail
  refine (HC.out _ BB.out).mono ?_
  rw [HR.out]
  rintro e U1 ⟨rfl, bU1⟩
  clear qt_0 qt_1 qt_2 qt_3 qt_4 qt_5 qt_6 qt_7 qt_8 qt_9 qt_10 lt
  replace BB := Lib.hid (below3 BB.out bU1)
  replace Kt := Lib.hid (Kt.out.below bU1 Kt.out.lt)
  replace Kr := Lib.hid (Kr.out.below bU1 Kr.out.lt)
  replace Kx := Lib.hid (Kx.out.below bU1 Kx.out.lt)
  clear bU1
  have II : Hid (SlI w _ T0) := Lib.hid ⟨HT0.out ▸ Kt.out, Kr.out, Kx.out, BB.out⟩
  clear HT0 HC Kt Kr Kx BB
  go_wp2_with fail
  go_loopw [10] (fun v wr => ∃ (j : Nat) (T : Tk), j ≤ m ∧ v = .int .i64 (j + 1) ∧ Hid (okF T p) ∧ Hid (runR p (m - j) j T = ⟨⟨z0, z1, z2, z3, z4, z5, z6, z7, z8, z9, z10⟩, ⟨zo, za, zb⟩, zn, ze⟩) ∧ Hid (SlI w wr T)) (fun v _ => m + 1 - (intOf v).toNat)
  case atStart => exact ⟨0, T0, by omega, rfl, HO, HRR, II⟩
  case round =>
    rename World => wr
    obtain ⟨j, T, hj, rfl, HOj, HRj, HI⟩ := hrel
    clear II HO HRR
    by_cases hlt : j < m
    · have HUj := Lib.hid (HU.out T)
      have HK := Lib.hid (unit_keeps (t := T) (p := p) HOj.out)
      have HZ := Lib.hid (unit_zero (t := T) (p := p) HOj.out)
      obtain ⟨i, hi⟩ : ∃ i, m - j = i + 1 := ⟨m - j - 1, by omega⟩
      rw [hi] at HRj
      have RE := Lib.hid (fun q => (runR_err (t := T) (p := p) (k := i) (n := j) q).symm.trans HRj.out)
      have RA := Lib.hid (fun q r => (runR_ask (t := T) (p := p) (k := i) (n := j) q r).symm.trans HRj.out)
      have RG := Lib.hid (fun q r => (runR_go (t := T) (p := p) (k := i) (n := j) q r).symm.trans HRj.out)
      have HUk := Lib.hid (fun W h => HUj.out W HOj.out h)
      generalize unitR T p = u at HUk HK HZ RE RA RG
      obtain ⟨U, X, ue⟩ := u
      obtain ⟨TN, hTN⟩ : ∃ T, U = T := ⟨_, rfl⟩
      obtain ⟨X1, hX1⟩ : ∃ T, X = T := ⟨_, rfl⟩
      dsimp only at HUk HK HZ RE RA RG
      rw [hTN] at HK RA RG
      rw [hX1] at HZ RA RG
      have HTN := Lib.hid hTN
      have HX1 := Lib.hid hX1
      clear hTN hX1 HUj HRj HOj
      obtain ⟨y0, y1, y2, y3, y4, y5, y6, y7, y8, y9, y10⟩ := U
      obtain ⟨xo, xa, xb⟩ := X
      unfold tc vI at HUk
      dsimp only at HUk
      have Kt := Lib.hid HI.out.t
      have Kr := Lib.hid HI.out.r
      have Kx := Lib.hid HI.out.x
      have BB := Lib.hid HI.out.b
      have HBt : Hid (w.heap.size ≤ w.heap.size) := Lib.hid (by omega)
      have HBr : Hid (w.heap.size ≤ (w.heap.size + 1)) := Lib.hid (by omega)
      have HBx : Hid (w.heap.size ≤ (w.heap.size + 1 + 1)) := Lib.hid (by omega)
      have Nt_r : Hid (w.heap.size ≠ (w.heap.size + 1)) := Lib.hid (by omega)
      have Nt_x : Hid (w.heap.size ≠ (w.heap.size + 1 + 1)) := Lib.hid (by omega)
      have Nr_x : Hid ((w.heap.size + 1) ≠ (w.heap.size + 1 + 1)) := Lib.hid (by omega)
      clear HI
      obtain ⟨id, tn, pg, pc, un, k0, k1, k2, k3, st, rn⟩ := T
      unfold tc at Kt
      unfold tc zT at Kr
      dsimp only at HUk Kt Kr
      obtain ⟨qt_0, qt_1, qt_2, qt_3, qt_4, qt_5, qt_6, qt_7, qt_8, qt_9, qt_10⟩ := Kt.out.c11
      have lt := Kt.out.lt
      go_wp2_with fail
      refine (HUk.out _ BB.out).mono ?_
      rintro e U1 ⟨rfl, bU1⟩
      clear qt_0 qt_1 qt_2 qt_3 qt_4 qt_5 qt_6 qt_7 qt_8 qt_9 qt_10 lt
      replace BB := Lib.hid (below3 BB.out bU1)
      replace Kt := Lib.hid (Kt.out.below bU1 Kt.out.lt)
      replace Kr := Lib.hid (Kr.out.below bU1 Kr.out.lt)
      replace Kx := Lib.hid (Kx.out.below bU1 Kx.out.lt)
      clear bU1
      obtain ⟨kn, km, ba⟩ := lies2 U1 #[.int .i64 y0, .int .i64 y1, .int .i64 y2, .int .i64 y3, .int .i64 y4, .int .i64 y5, .int .i64 y6, .int .i64 y7, .int .i64 y8, .int .i64 y9, .int .i64 y10] #[.int .i64 xo, .int .i64 xa, .int .i64 xb] 24 28
      have hgb := BB.out.size
      have nt_a := Kt.out.lt
      have nr_a := Kr.out.lt
      have nx_a := Kx.out.lt
      replace BB := Lib.hid (below3 BB.out ba)
      replace Kt := Lib.hid (Kt.out.below ba Kt.out.lt)
      replace Kr := Lib.hid (Kr.out.below ba Kr.out.lt)
      replace Kx := Lib.hid (Kx.out.below ba Kx.out.lt)
      obtain ⟨ga, hg⟩ : ∃ g, U1.heap.size = g := ⟨_, rfl⟩
      obtain ⟨V2, hW⟩ : ∃ W, (U1.alloc (.cells #[.int .i64 y0, .int .i64 y1, .int .i64 y2, .int .i64 y3, .int .i64 y4, .int .i64 y5, .int .i64 y6, .int .i64 y7, .int .i64 y8, .int .i64 y9, .int .i64 y10] 24)).alloc (.cells #[.int .i64 xo, .int .i64 xa, .int .i64 xb] 28) = W := ⟨_, rfl⟩
      rw [hW] at BB kn km Kt Kr Kx
      rw [hg] at kn km hgb nt_a nr_a nx_a
      have Ka := Lib.hid kn
      have Ke := Lib.hid km
      have HGa := Lib.hid hg
      have HWa := Lib.hid hW
      have HBa := Lib.hid hgb
      have HBe : Hid (w.heap.size ≤ ga + 1) := Lib.hid (by omega)
      have Na_e : Hid (ga ≠ ga + 1) := Lib.hid (by omega)
      have Nt_a : Hid (w.heap.size ≠ ga) := Lib.hid (by omega)
      have Nt_e : Hid (w.heap.size ≠ ga + 1) := Lib.hid (by omega)
      have Nr_a : Hid ((w.heap.size + 1) ≠ ga) := Lib.hid (by omega)
      have Nr_e : Hid ((w.heap.size + 1) ≠ ga + 1) := Lib.hid (by omega)
      have Nx_a : Hid ((w.heap.size + 1 + 1) ≠ ga) := Lib.hid (by omega)
      have Nx_e : Hid ((w.heap.size + 1 + 1) ≠ ga + 1) := Lib.hid (by omega)
      clear hW hg kn km ba hgb nt_a nr_a nx_a
      go_upto_region 7 with fail
      rw [HWa.out]
      try rw [HGa.out]
      clear HWa HGa
      obtain ⟨qa_0, qa_1, qa_2, qa_3, qa_4, qa_5, qa_6, qa_7, qa_8, qa_9, qa_10⟩ := Ka.out.c11
      have la := Ka.out.lt
      obtain ⟨qe_0, qe_1, qe_2⟩ := Ke.out.c3
      have le := Ke.out.lt
      by_cases he : ue = 0
      · subst he
        clear RE
        by_cases hx : xo = 0
        · subst hx
          have hjm : j + 1 ≤ m := by omega
          have RG2 := Lib.hid (RG.out rfl (by rw [← HX1.out]))
          have OK2 := Lib.hid (HK.out rfl)
          clear RA RG HK HZ
          clear qa_0 qa_1 qa_2 qa_3 qa_4 qa_5 qa_6 qa_7 qa_8 qa_9 qa_10 la qe_0 qe_1 qe_2 le
          obtain ⟨qa_0, qa_1, qa_2, qa_3, qa_4, qa_5, qa_6, qa_7, qa_8, qa_9, qa_10⟩ := Ka.out.c11
          have la := Ka.out.lt
          obtain ⟨fa_0, fa_1, fa_2, fa_3, fa_4, fa_5, fa_6, fa_7, fa_8, fa_9, fa_10⟩ := Ka.out.f11
          obtain ⟨qt_0, qt_1, qt_2, qt_3, qt_4, qt_5, qt_6, qt_7, qt_8, qt_9, qt_10⟩ := Kt.out.c11
          have lt := Kt.out.lt
          obtain ⟨ft_0, ft_1, ft_2, ft_3, ft_4, ft_5, ft_6, ft_7, ft_8, ft_9, ft_10⟩ := Kt.out.f11
          obtain ⟨qe_0, qe_1, qe_2⟩ := Ke.out.c3
          have le := Ke.out.lt
          have x0 := bk_set11 Kt.out (.int .i64 y0) (.int .i64 y1) (.int .i64 y2) (.int .i64 y3) (.int .i64 y4) (.int .i64 y5) (.int .i64 y6) (.int .i64 y7) (.int .i64 y8) (.int .i64 y9) (.int .i64 y10)
          have xb := below_set11 (g := w.heap.size) BB.out HBt.out (.int .i64 y0) (.int .i64 y1) (.int .i64 y2) (.int .i64 y3) (.int .i64 y4) (.int .i64 y5) (.int .i64 y6) (.int .i64 y7) (.int .i64 y8) (.int .i64 y9) (.int .i64 y10)
          have x_r := far_set11 Kr.out Nt_r.out.symm (.int .i64 y0) (.int .i64 y1) (.int .i64 y2) (.int .i64 y3) (.int .i64 y4) (.int .i64 y5) (.int .i64 y6) (.int .i64 y7) (.int .i64 y8) (.int .i64 y9) (.int .i64 y10)
          have x_x := far_set11 Kx.out Nt_x.out.symm (.int .i64 y0) (.int .i64 y1) (.int .i64 y2) (.int .i64 y3) (.int .i64 y4) (.int .i64 y5) (.int .i64 y6) (.int .i64 y7) (.int .i64 y8) (.int .i64 y9) (.int .i64 y10)
          have x_a := far_set11 Ka.out Nt_a.out.symm (.int .i64 y0) (.int .i64 y1) (.int .i64 y2) (.int .i64 y3) (.int .i64 y4) (.int .i64 y5) (.int .i64 y6) (.int .i64 y7) (.int .i64 y8) (.int .i64 y9) (.int .i64 y10)
          have x_e := far_set11 Ke.out Nt_e.out.symm (.int .i64 y0) (.int .i64 y1) (.int .i64 y2) (.int .i64 y3) (.int .i64 y4) (.int .i64 y5) (.int .i64 y6) (.int .i64 y7) (.int .i64 y8) (.int .i64 y9) (.int .i64 y10)
          obtain ⟨S1, hX⟩ : ∃ X, set11 V2 w.heap.size (.int .i64 y0) (.int .i64 y1) (.int .i64 y2) (.int .i64 y3) (.int .i64 y4) (.int .i64 y5) (.int .i64 y6) (.int .i64 y7) (.int .i64 y8) (.int .i64 y9) (.int .i64 y10) = X := ⟨_, rfl⟩
          rw [hX] at x0 xb x_r x_x x_a x_e
          unfold set11 at hX
          have HX := Lib.hid hX
          replace Kt := Lib.hid x0
          replace BB := Lib.hid xb
          replace Kr := Lib.hid x_r
          replace Kx := Lib.hid x_x
          replace Ka := Lib.hid x_a
          replace Ke := Lib.hid x_e
          clear hX x0 xb x_r x_x x_a x_e
          go_upto_region 10 with fail
          rw [HX.out]
          clear HX
          clear qa_0 qa_1 qa_2 qa_3 qa_4 qa_5 qa_6 qa_7 qa_8 qa_9 qa_10 la fa_0 fa_1 fa_2 fa_3 fa_4 fa_5 fa_6 fa_7 fa_8 fa_9 fa_10 qt_0 qt_1 qt_2 qt_3 qt_4 qt_5 qt_6 qt_7 qt_8 qt_9 qt_10 lt ft_0 ft_1 ft_2 ft_3 ft_4 ft_5 ft_6 ft_7 ft_8 ft_9 ft_10 qe_0 qe_1 qe_2 le
          have II2 : Hid (SlI w S1 TN) := Lib.hid ⟨HTN.out ▸ Kt.out, Kr.out, Kx.out, BB.out⟩
          have hi2 : m - (j + 1) = i := by omega
          obtain ⟨qe_0, qe_1, qe_2⟩ := Ke.out.c3
          have le := Ke.out.lt
          clear Kt Kr Kx Ka Ke BB HTN HX1
          go_wp2_with fail
          go_roundw
          case rel => exact ⟨j + 1, TN, hjm, by go_num, OK2, by rw [hi2]; exact RG2, II2⟩
          case measure => simp [intOf]; omega
        · have hz := RA.out rfl (by rw [← HX1.out]; exact hx)
          rw [← HTN.out, ← HX1.out] at hz
          injection hz with h1 h2
          injection h1 with a0 a1 a2 a3 a4 a5 a6 a7 a8 a9 a10
          injection h2 with h2 h3
          injection h2 with b0 b1
          injection b1 with b1 b2
          injection h3 with c0 c1
          subst a0 a1 a2 a3 a4 a5 a6 a7 a8 a9 a10 b0 b1 b2 c0 c1
          have e2 : (xo != 0) = true := by simpa using hx
          have e3 : (xo == 0) = false := by simpa using hx
          clear RA RG HK HZ hx HTN HX1
          clear qa_0 qa_1 qa_2 qa_3 qa_4 qa_5 qa_6 qa_7 qa_8 qa_9 qa_10 la qe_0 qe_1 qe_2 le
          obtain ⟨qa_0, qa_1, qa_2, qa_3, qa_4, qa_5, qa_6, qa_7, qa_8, qa_9, qa_10⟩ := Ka.out.c11
          have la := Ka.out.lt
          obtain ⟨fa_0, fa_1, fa_2, fa_3, fa_4, fa_5, fa_6, fa_7, fa_8, fa_9, fa_10⟩ := Ka.out.f11
          obtain ⟨qt_0, qt_1, qt_2, qt_3, qt_4, qt_5, qt_6, qt_7, qt_8, qt_9, qt_10⟩ := Kt.out.c11
          have lt := Kt.out.lt
          obtain ⟨ft_0, ft_1, ft_2, ft_3, ft_4, ft_5, ft_6, ft_7, ft_8, ft_9, ft_10⟩ := Kt.out.f11
          have x0 := bk_set11 Kt.out (.int .i64 y0) (.int .i64 y1) (.int .i64 y2) (.int .i64 y3) (.int .i64 y4) (.int .i64 y5) (.int .i64 y6) (.int .i64 y7) (.int .i64 y8) (.int .i64 y9) (.int .i64 y10)
          have xb := below_set11 (g := w.heap.size) BB.out HBt.out (.int .i64 y0) (.int .i64 y1) (.int .i64 y2) (.int .i64 y3) (.int .i64 y4) (.int .i64 y5) (.int .i64 y6) (.int .i64 y7) (.int .i64 y8) (.int .i64 y9) (.int .i64 y10)
          have x_r := far_set11 Kr.out Nt_r.out.symm (.int .i64 y0) (.int .i64 y1) (.int .i64 y2) (.int .i64 y3) (.int .i64 y4) (.int .i64 y5) (.int .i64 y6) (.int .i64 y7) (.int .i64 y8) (.int .i64 y9) (.int .i64 y10)
          have x_x := far_set11 Kx.out Nt_x.out.symm (.int .i64 y0) (.int .i64 y1) (.int .i64 y2) (.int .i64 y3) (.int .i64 y4) (.int .i64 y5) (.int .i64 y6) (.int .i64 y7) (.int .i64 y8) (.int .i64 y9) (.int .i64 y10)
          have x_a := far_set11 Ka.out Nt_a.out.symm (.int .i64 y0) (.int .i64 y1) (.int .i64 y2) (.int .i64 y3) (.int .i64 y4) (.int .i64 y5) (.int .i64 y6) (.int .i64 y7) (.int .i64 y8) (.int .i64 y9) (.int .i64 y10)
          have x_e := far_set11 Ke.out Nt_e.out.symm (.int .i64 y0) (.int .i64 y1) (.int .i64 y2) (.int .i64 y3) (.int .i64 y4) (.int .i64 y5) (.int .i64 y6) (.int .i64 y7) (.int .i64 y8) (.int .i64 y9) (.int .i64 y10)
          obtain ⟨S1, hX⟩ : ∃ X, set11 V2 w.heap.size (.int .i64 y0) (.int .i64 y1) (.int .i64 y2) (.int .i64 y3) (.int .i64 y4) (.int .i64 y5) (.int .i64 y6) (.int .i64 y7) (.int .i64 y8) (.int .i64 y9) (.int .i64 y10) = X := ⟨_, rfl⟩
          rw [hX] at x0 xb x_r x_x x_a x_e
          unfold set11 at hX
          have HX := Lib.hid hX
          replace Kt := Lib.hid x0
          replace BB := Lib.hid xb
          replace Kr := Lib.hid x_r
          replace Kx := Lib.hid x_x
          replace Ka := Lib.hid x_a
          replace Ke := Lib.hid x_e
          clear hX x0 xb x_r x_x x_a x_e
          go_upto_region 10 with fail
          rw [HX.out]
          clear HX
          clear qa_0 qa_1 qa_2 qa_3 qa_4 qa_5 qa_6 qa_7 qa_8 qa_9 qa_10 la fa_0 fa_1 fa_2 fa_3 fa_4 fa_5 fa_6 fa_7 fa_8 fa_9 fa_10 qt_0 qt_1 qt_2 qt_3 qt_4 qt_5 qt_6 qt_7 qt_8 qt_9 qt_10 lt ft_0 ft_1 ft_2 ft_3 ft_4 ft_5 ft_6 ft_7 ft_8 ft_9 ft_10
          obtain ⟨qe_0, qe_1, qe_2⟩ := Ke.out.c3
          have le := Ke.out.lt
          obtain ⟨qt_0, qt_1, qt_2, qt_3, qt_4, qt_5, qt_6, qt_7, qt_8, qt_9, qt_10⟩ := Kt.out.c11
          have lt := Kt.out.lt
          clear qe_0 qe_1 qe_2 le qt_0 qt_1 qt_2 qt_3 qt_4 qt_5 qt_6 qt_7 qt_8 qt_9 qt_10 lt
          obtain ⟨qt_0, qt_1, qt_2, qt_3, qt_4, qt_5, qt_6, qt_7, qt_8, qt_9, qt_10⟩ := Kt.out.c11
          have lt := Kt.out.lt
          obtain ⟨qe_0, qe_1, qe_2⟩ := Ke.out.c3
          have le := Ke.out.lt
          have pr_a := Nr_a.out
          have px_a := Nx_a.out
          have pr_e := Nr_e.out
          have px_e := Nx_e.out
          have pt_r := Nt_r.out
          have pt_x := Nt_x.out
          have pa_e := Na_e.out
          obtain ⟨qr_0, qr_1, qr_2, qr_3, qr_4, qr_5, qr_6, qr_7, qr_8, qr_9, qr_10⟩ := Kr.out.c11
          have lr := Kr.out.lt
          obtain ⟨fr_0, fr_1, fr_2, fr_3, fr_4, fr_5, fr_6, fr_7, fr_8, fr_9, fr_10⟩ := Kr.out.f11
          obtain ⟨qx_0, qx_1, qx_2⟩ := Kx.out.c3
          have lx := Kx.out.lt
          obtain ⟨fx_0, fx_1, fx_2⟩ := Kx.out.f3
          have B_r := Lib.hid (below_set11 (g := (w.heap.size + 1)) BB.out HBr.out (.int .i64 y0) (.int .i64 y1) (.int .i64 y2) (.int .i64 y3) (.int .i64 y4) (.int .i64 y5) (.int .i64 y6) (.int .i64 y7) (.int .i64 y8) (.int .i64 y9) (.int .i64 y10))
          have S_r := Lib.hid (bk_set11 Kr.out (.int .i64 y0) (.int .i64 y1) (.int .i64 y2) (.int .i64 y3) (.int .i64 y4) (.int .i64 y5) (.int .i64 y6) (.int .i64 y7) (.int .i64 y8) (.int .i64 y9) (.int .i64 y10))
          have F_x_r := Lib.hid (far_set11 Kx.out (Nr_x.out.symm) (.int .i64 y0) (.int .i64 y1) (.int .i64 y2) (.int .i64 y3) (.int .i64 y4) (.int .i64 y5) (.int .i64 y6) (.int .i64 y7) (.int .i64 y8) (.int .i64 y9) (.int .i64 y10))
          have B_x := Lib.hid (below_set3 (g := (w.heap.size + 1 + 1)) B_r.out HBx.out (.int .i64 xo) (.int .i64 xa) (.int .i64 xb))
          have S_x := Lib.hid (bk_set3 F_x_r.out (.int .i64 xo) (.int .i64 xa) (.int .i64 xb))
          have F_r_x := Lib.hid (far_set3 S_r.out (Nr_x.out) (.int .i64 xo) (.int .i64 xa) (.int .i64 xb))
          unfold set11 set3 at B_x
          go_upto_region 11 with fail
          go_region
          go_wp2
          obtain ⟨rr_0, rr_1, rr_2, rr_3, rr_4, rr_5, rr_6, rr_7, rr_8, rr_9, rr_10⟩ := Bk.c11 (F_r_x.out.drew)
          obtain ⟨rx_0, rx_1, rx_2⟩ := Bk.c3 (S_x.out.drew)
          unfold set11 set3 at rr_0 rr_1 rr_2 rr_3 rr_4 rr_5 rr_6 rr_7 rr_8 rr_9 rr_10 rx_0 rx_1 rx_2
          exact bodyPost_ret (v := .tuple #[.agg #[.int .i64 y0, .int .i64 y1, .int .i64 y2, .int .i64 y3, .int .i64 y4, .int .i64 y5, .int .i64 y6, .int .i64 y7, .int .i64 y8, .int .i64 y9, .int .i64 y10], .agg #[.int .i64 xo, .int .i64 xa, .int .i64 xb], .int .i64 ((j : Int) + 1), .int .i64 0]) (by simp [results, Tryd.results13, go_sem, rr_0, rr_1, rr_2, rr_3, rr_4, rr_5, rr_6, rr_7, rr_8, rr_9, rr_10, rx_0, rx_1, rx_2]) rfl ⟨rfl, B_x.out.drew⟩
      · have hz := RE.out he
        injection hz with h1 h2
        unfold zT at h1
        unfold zI at h2
        injection h1 with a0 a1 a2 a3 a4 a5 a6 a7 a8 a9 a10
        injection h2 with h2 h3
        injection h2 with b0 b1
        injection b1 with b1 b2
        injection h3 with c0 c1
        subst a0 a1 a2 a3 a4 a5 a6 a7 a8 a9 a10 b0 b1 b2 c0 c1
        have e1 : (ue != 0) = true := by simpa using he
        clear RE RA RG HK HZ he
        clear qa_0 qa_1 qa_2 qa_3 qa_4 qa_5 qa_6 qa_7 qa_8 qa_9 qa_10 la qe_0 qe_1 qe_2 le
        obtain ⟨qr_0, qr_1, qr_2, qr_3, qr_4, qr_5, qr_6, qr_7, qr_8, qr_9, qr_10⟩ := Kr.out.c11
        have lr := Kr.out.lt
        obtain ⟨fr_0, fr_1, fr_2, fr_3, fr_4, fr_5, fr_6, fr_7, fr_8, fr_9, fr_10⟩ := Kr.out.f11
        obtain ⟨qx_0, qx_1, qx_2⟩ := Kx.out.c3
        have lx := Kx.out.lt
        obtain ⟨fx_0, fx_1, fx_2⟩ := Kx.out.f3
        have B_r := Lib.hid (below_set11 (g := (w.heap.size + 1)) BB.out HBr.out (.int .i64 0) (.int .i64 0) (.int .i64 0) (.int .i64 0) (.int .i64 0) (.int .i64 0) (.int .i64 0) (.int .i64 0) (.int .i64 0) (.int .i64 0) (.int .i64 0))
        have S_r := Lib.hid (bk_set11 Kr.out (.int .i64 0) (.int .i64 0) (.int .i64 0) (.int .i64 0) (.int .i64 0) (.int .i64 0) (.int .i64 0) (.int .i64 0) (.int .i64 0) (.int .i64 0) (.int .i64 0))
        have F_x_r := Lib.hid (far_set11 Kx.out (Nr_x.out.symm) (.int .i64 0) (.int .i64 0) (.int .i64 0) (.int .i64 0) (.int .i64 0) (.int .i64 0) (.int .i64 0) (.int .i64 0) (.int .i64 0) (.int .i64 0) (.int .i64 0))
        have B_x := Lib.hid (below_set3 (g := (w.heap.size + 1 + 1)) B_r.out HBx.out (.int .i64 0) (.int .i64 0) (.int .i64 0))
        have S_x := Lib.hid (bk_set3 F_x_r.out (.int .i64 0) (.int .i64 0) (.int .i64 0))
        have F_r_x := Lib.hid (far_set3 S_r.out (Nr_x.out) (.int .i64 0) (.int .i64 0) (.int .i64 0))
        unfold set11 set3 at B_x
        go_wp2
        obtain ⟨rr_0, rr_1, rr_2, rr_3, rr_4, rr_5, rr_6, rr_7, rr_8, rr_9, rr_10⟩ := Bk.c11 (F_r_x.out)
        obtain ⟨rx_0, rx_1, rx_2⟩ := Bk.c3 (S_x.out)
        unfold set11 set3 at rr_0 rr_1 rr_2 rr_3 rr_4 rr_5 rr_6 rr_7 rr_8 rr_9 rr_10 rx_0 rx_1 rx_2
        exact bodyPost_ret (v := .tuple #[.agg #[.int .i64 0, .int .i64 0, .int .i64 0, .int .i64 0, .int .i64 0, .int .i64 0, .int .i64 0, .int .i64 0, .int .i64 0, .int .i64 0, .int .i64 0], .agg #[.int .i64 0, .int .i64 0, .int .i64 0], .int .i64 0, .int .i64 ue]) (by simp [results, Tryd.results13, go_sem, rr_0, rr_1, rr_2, rr_3, rr_4, rr_5, rr_6, rr_7, rr_8, rr_9, rr_10, rx_0, rx_1, rx_2]) rfl ⟨rfl, B_x.out⟩
    · have hz := HRj.out
      rw [show m - j = 0 by omega, runR] at hz
      have HJ : Hid ((m : Int) = (j : Int)) := Lib.hid (by omega)
      have hle : ¬ ((j : Int) + 1 ≤ (m : Int)) := by omega
      injection hz with h1 h2
      subst h1
      unfold zI at h2
      injection h2 with h2 h3
      injection h2 with b0 b1
      injection b1 with b1 b2
      injection h3 with c0 c1
      subst b0 b1 b2 c0 c1
      clear HRj HOj
      have Kt := Lib.hid HI.out.t
      have Kr := Lib.hid HI.out.r
      have Kx := Lib.hid HI.out.x
      have BB := Lib.hid HI.out.b
      have HBt : Hid (w.heap.size ≤ w.heap.size) := Lib.hid (by omega)
      have HBr : Hid (w.heap.size ≤ (w.heap.size + 1)) := Lib.hid (by omega)
      have HBx : Hid (w.heap.size ≤ (w.heap.size + 1 + 1)) := Lib.hid (by omega)
      have Nt_r : Hid (w.heap.size ≠ (w.heap.size + 1)) := Lib.hid (by omega)
      have Nt_x : Hid (w.heap.size ≠ (w.heap.size + 1 + 1)) := Lib.hid (by omega)
      have Nr_x : Hid ((w.heap.size + 1) ≠ (w.heap.size + 1 + 1)) := Lib.hid (by omega)
      clear HI
      unfold tc at Kt
      unfold tc zT at Kr
      dsimp only at Kt Kr
      obtain ⟨qt_0, qt_1, qt_2, qt_3, qt_4, qt_5, qt_6, qt_7, qt_8, qt_9, qt_10⟩ := Kt.out.c11
      have lt := Kt.out.lt
      obtain ⟨qr_0, qr_1, qr_2, qr_3, qr_4, qr_5, qr_6, qr_7, qr_8, qr_9, qr_10⟩ := Kr.out.c11
      have lr := Kr.out.lt
      obtain ⟨fr_0, fr_1, fr_2, fr_3, fr_4, fr_5, fr_6, fr_7, fr_8, fr_9, fr_10⟩ := Kr.out.f11
      obtain ⟨qx_0, qx_1, qx_2⟩ := Kx.out.c3
      have lx := Kx.out.lt
      obtain ⟨fx_0, fx_1, fx_2⟩ := Kx.out.f3
      have B_r := Lib.hid (below_set11 (g := (w.heap.size + 1)) BB.out HBr.out (.int .i64 z0) (.int .i64 z1) (.int .i64 z2) (.int .i64 z3) (.int .i64 z4) (.int .i64 z5) (.int .i64 z6) (.int .i64 z7) (.int .i64 z8) (.int .i64 z9) (.int .i64 z10))
      have S_r := Lib.hid (bk_set11 Kr.out (.int .i64 z0) (.int .i64 z1) (.int .i64 z2) (.int .i64 z3) (.int .i64 z4) (.int .i64 z5) (.int .i64 z6) (.int .i64 z7) (.int .i64 z8) (.int .i64 z9) (.int .i64 z10))
      have F_x_r := Lib.hid (far_set11 Kx.out (Nr_x.out.symm) (.int .i64 z0) (.int .i64 z1) (.int .i64 z2) (.int .i64 z3) (.int .i64 z4) (.int .i64 z5) (.int .i64 z6) (.int .i64 z7) (.int .i64 z8) (.int .i64 z9) (.int .i64 z10))
      have B_x := Lib.hid (below_set3 (g := (w.heap.size + 1 + 1)) B_r.out HBx.out (.int .i64 0) (.int .i64 0) (.int .i64 0))
      have S_x := Lib.hid (bk_set3 F_x_r.out (.int .i64 0) (.int .i64 0) (.int .i64 0))
      have F_r_x := Lib.hid (far_set3 S_r.out (Nr_x.out) (.int .i64 0) (.int .i64 0) (.int .i64 0))
      unfold set11 set3 at B_x
      go_wp2
      obtain ⟨rr_0, rr_1, rr_2, rr_3, rr_4, rr_5, rr_6, rr_7, rr_8, rr_9, rr_10⟩ := Bk.c11 (F_r_x.out)
      obtain ⟨rx_0, rx_1, rx_2⟩ := Bk.c3 (S_x.out)
      unfold set11 set3 at rr_0 rr_1 rr_2 rr_3 rr_4 rr_5 rr_6 rr_7 rr_8 rr_9 rr_10 rx_0 rx_1 rx_2
      exact bodyPost_ret (v := .tuple #[.agg #[.int .i64 z0, .int .i64 z1, .int .i64 z2, .int .i64 z3, .int .i64 z4, .int .i64 z5, .int .i64 z6, .int .i64 z7, .int .i64 z8, .int .i64 z9, .int .i64 z10], .agg #[.int .i64 0, .int .i64 0, .int .i64 0], .int .i64 m, .int .i64 0]) (by simp [results, Tryd.results13, go_sem, rr_0, rr_1, rr_2, rr_3, rr_4, rr_5, rr_6, rr_7, rr_8, rr_9, rr_10, rx_0, rx_1, rx_2]) rfl ⟨by rw [HJ.out], B_x.out⟩

theorem rslice_any (t : Tk) (A : Option Addr) (n c : Nat) (p : List I3) (b : Int) (w : World) (hp : Prog w A n c p) : Calls Tryd.prog 13 #[.agg (tc t), .slice A n c, .int .i64 b] w (RetB (.tuple #[.agg (tc (sliceR t p b).1), vI (sliceR t p b).2.1, .int .i64 (sliceR t p b).2.2.1, .int .i64 (sliceR t p b).2.2.2]) w) := by
  by_cases h : okF t p
  · by_cases h1 : b < 1
    · exact rslice_2 t A n c p b w hp h h1
    · by_cases h2 : 100 < b
      · exact rslice_3 t A n c p b w hp h h2
      · exact rslice_4 t A n c p b w hp h (by omega) (by omega)
  · exact rslice_1 t A n c p b w hp h

end Go.Proofs.YtlbmlhcphoiaeaaDoor

import Derived.Test.YtfhlligcbpnkkaaDoorMg8

/-
  Layer 13: Do and Next, the program's and the document's.
-/
namespace Go.Proofs.YtfhlligcbpnkkaaDoor
open Go.RowKit

theorem okF.work {t : Tk} {p : List I3} (h : okF t p) {k : Nat} (hk : t.pc = k) (q : (atN p k).1 = 1) : t.un < (atN p k).2.1 ∧ k < p.length := by
  obtain ⟨⟨⟨_, _, _, _, hu, _⟩, _⟩, hp, h5, h6⟩ := h
  rw [hk] at h5 h6
  have hlt : k < p.length := by
    rcases Nat.lt_or_ge k p.length with e | e
    · exact e
    · rw [atN_end (by omega)] at q; exact absurd q (by decide)
  have hm := may_bound (atN_may hp (k := k) (by omega))
  refine ⟨?_, hlt⟩
  rcases h6 with e | ⟨_, _, e⟩
  · have := (hm.2.2.2.2.2.2 q).1
    omega
  · rw [atN_in hlt]; rw [Int.toNat_natCast] at e; exact e

set_option maxRecDepth 100000 in
set_option maxHeartbeats 4000000 in
theorem do_no (t : Tk) (A : Option Addr) (n c : Nat) (p : List I3) (w : World) (hp : Prog w A n c p) (h : ¬ okF t p) : Calls Tryd.prog 59 #[.agg (tc t), .slice A n c] w (RetB (.tuple #[.agg (tc (doR t p).1), vI (doR t p).2.1, .int .i64 (doR t p).2.2]) w) := by
  have HN := Lib.hid hp.1
  have HP := Lib.hid hp
  have hn := Nat.le_trans hp.2.1.1 hp.2.1.2
  clear hp
  rw [doR_no h]
  have HR := Lib.hid (okFB_no h)
  clear h
  have HC := Lib.hid (fun (W : World) (h : Below w.heap.size w W) => fits_any t A n c p W (HP.out.below h))
  obtain ⟨id, tn, pg, pc, un, k0, k1, k2, k3, st, rn⟩ := t
  unfold tc at HC
  unfold tc zT vI zI
  dsimp only at HC ⊢
  obtain ⟨kb0, kb1, kb2, hb0⟩ := lies3 w #[.int .i64 id, .int .i64 tn, .int .i64 pg, .int .i64 pc, .int .i64 un, .int .i64 k0, .int .i64 k1, .int .i64 k2, .int .i64 k3, .int .i64 st, .int .i64 rn] #[.int .i64 0, .int .i64 0, .int .i64 0, .int .i64 0, .int .i64 0, .int .i64 0, .int .i64 0, .int .i64 0, .int .i64 0, .int .i64 0, .int .i64 0] #[.int .i64 0, .int .i64 0, .int .i64 0] 44 44 72
  obtain ⟨V, hV⟩ : ∃ V, ((w.alloc (.cells #[.int .i64 id, .int .i64 tn, .int .i64 pg, .int .i64 pc, .int .i64 un, .int .i64 k0, .int .i64 k1, .int .i64 k2, .int .i64 k3, .int .i64 st, .int .i64 rn] 44)).alloc (.cells #[.int .i64 0, .int .i64 0, .int .i64 0, .int .i64 0, .int .i64 0, .int .i64 0, .int .i64 0, .int .i64 0, .int .i64 0, .int .i64 0, .int .i64 0] 44)).alloc (.cells #[.int .i64 0, .int .i64 0, .int .i64 0] 72) = V := ⟨_, rfl⟩
  rw [hV] at hb0 kb0 kb1 kb2
  have HV := Lib.hid hV
  have BB := Lib.hid hb0
  have Kt := Lib.hid kb0
  have HBt : Hid (w.heap.size ≤ w.heap.size) := Lib.hid (by omega)
  have Kr := Lib.hid kb1
  have HBr : Hid (w.heap.size ≤ (w.heap.size + 1)) := Lib.hid (by omega)
  have Nt_r : Hid (w.heap.size ≠ (w.heap.size + 1)) := Lib.hid (by omega)
  have Kx := Lib.hid kb2
  have HBx : Hid (w.heap.size ≤ (w.heap.size + 1 + 1)) := Lib.hid (by omega)
  have Nt_x : Hid (w.heap.size ≠ (w.heap.size + 1 + 1)) := Lib.hid (by omega)
  have Nr_x : Hid ((w.heap.size + 1) ≠ (w.heap.size + 1 + 1)) := Lib.hid (by omega)
  clear hV hb0 kb0 kb1 kb2
  go_enter Tryd.func59, Tryd.ntmps59
  go_upto_region 1 with fail
  rw [HV.out]
  clear HV
  obtain ⟨qt_0, qt_1, qt_2, qt_3, qt_4, qt_5, qt_6, qt_7, qt_8, qt_9, qt_10⟩ := Kt.out.c11
  have lt := Kt.out.lt
  go_wp2_with fail
  refine (HC.out _ BB.out).mono ?_
  rw [HR.out]
  rintro e U1 ⟨rfl, bU1⟩
  clear qt_0 qt_1 qt_2 qt_3 qt_4 qt_5 qt_6 qt_7 qt_8 qt_9 qt_10 lt
  replace BB := Lib.hid (below3 BB.out bU1)
  replace Kt := Lib.hid (Kt.out.below bU1 Kt.out.lt)
  replace Kr := Lib.hid (Kr.out.below bU1 Kr.out.lt)
  replace Kx := Lib.hid (Kx.out.below bU1 Kx.out.lt)
  clear bU1
  obtain ⟨qr_0, qr_1, qr_2, qr_3, qr_4, qr_5, qr_6, qr_7, qr_8, qr_9, qr_10⟩ := Kr.out.c11
  have lr := Kr.out.lt
  obtain ⟨fr_0, fr_1, fr_2, fr_3, fr_4, fr_5, fr_6, fr_7, fr_8, fr_9, fr_10⟩ := Kr.out.f11
  obtain ⟨qx_0, qx_1, qx_2⟩ := Kx.out.c3
  have lx := Kx.out.lt
  obtain ⟨fx_0, fx_1, fx_2⟩ := Kx.out.f3
  have B_r := Lib.hid (below_set11 (g := (w.heap.size + 1)) BB.out HBr.out (.int .i64 0) (.int .i64 0) (.int .i64 0) (.int .i64 0) (.int .i64 0) (.int .i64 0) (.int .i64 0) (.int .i64 0) (.int .i64 0) (.int .i64 0) (.int .i64 0))
  have S_r := Lib.hid (bk_set11 Kr.out (.int .i64 0) (.int .i64 0) (.int .i64 0) (.int .i64 0) (.int .i64 0) (.int .i64 0) (.int .i64 0) (.int .i64 0) (.int .i64 0) (.int .i64 0) (.int .i64 0))
  have F_x_r := Lib.hid (far_set11 Kx.out (Nr_x.out.symm) (.int .i64 0) (.int .i64 0) (.int .i64 0) (.int .i64 0) (.int .i64 0) (.int .i64 0) (.int .i64 0) (.int .i64 0) (.int .i64 0) (.int .i64 0) (.int .i64 0))
  have B_x := Lib.hid (below_set3 (g := (w.heap.size + 1 + 1)) B_r.out HBx.out (.int .i64 0) (.int .i64 0) (.int .i64 0))
  have S_x := Lib.hid (bk_set3 F_x_r.out (.int .i64 0) (.int .i64 0) (.int .i64 0))
  have F_r_x := Lib.hid (far_set3 S_r.out (Nr_x.out) (.int .i64 0) (.int .i64 0) (.int .i64 0))
  unfold set11 set3 at B_x
  go_wp2
  obtain ⟨rr_0, rr_1, rr_2, rr_3, rr_4, rr_5, rr_6, rr_7, rr_8, rr_9, rr_10⟩ := Bk.c11 (F_r_x.out)
  obtain ⟨rx_0, rx_1, rx_2⟩ := Bk.c3 (S_x.out)
  unfold set11 set3 at rr_0 rr_1 rr_2 rr_3 rr_4 rr_5 rr_6 rr_7 rr_8 rr_9 rr_10 rx_0 rx_1 rx_2
  exact bodyPost_ret (v := .tuple #[.agg #[.int .i64 0, .int .i64 0, .int .i64 0, .int .i64 0, .int .i64 0, .int .i64 0, .int .i64 0, .int .i64 0, .int .i64 0, .int .i64 0, .int .i64 0], .agg #[.int .i64 0, .int .i64 0, .int .i64 0], .int .i64 1]) (by simp [results, Tryd.results59, go_sem, rr_0, rr_1, rr_2, rr_3, rr_4, rr_5, rr_6, rr_7, rr_8, rr_9, rr_10, rx_0, rx_1, rx_2]) rfl ⟨rfl, B_x.out⟩

set_option maxRecDepth 100000 in
set_option maxHeartbeats 4000000 in
theorem do_yes (t : Tk) (A : Option Addr) (n c : Nat) (p : List I3) (w : World) (hp : Prog w A n c p) (h : okF t p) : Calls Tryd.prog 59 #[.agg (tc t), .slice A n c] w (RetB (.tuple #[.agg (tc (doR t p).1), vI (doR t p).2.1, .int .i64 (doR t p).2.2]) w) := by
  have HN := Lib.hid hp.1
  have HP := Lib.hid hp
  have hn := Nat.le_trans hp.2.1.1 hp.2.1.2
  clear hp
  rw [doR_yes h]
  have HR := Lib.hid (okFB_yes h)
  have HC := Lib.hid (fun (W : World) (h : Below w.heap.size w W) => fits_any t A n c p W (HP.out.below h))
  have HU := Lib.hid (fun (W : World) (q : Below w.heap.size w W) => unit_any t A n c p W (HP.out.below q) h.num)
  clear h
  obtain ⟨⟨⟨y0, y1, y2, y3, y4, y5, y6, y7, y8, y9, y10⟩, ⟨xo, xa, xb⟩, e⟩, hy⟩ : ∃ y, unitR t p = y := ⟨_, rfl⟩
  rw [hy] at HU ⊢
  clear hy
  obtain ⟨id, tn, pg, pc, un, k0, k1, k2, k3, st, rn⟩ := t
  unfold tc vI at HU ⊢
  unfold tc at HC
  dsimp only at HC HU ⊢
  obtain ⟨kb0, kb1, kb2, hb0⟩ := lies3 w #[.int .i64 id, .int .i64 tn, .int .i64 pg, .int .i64 pc, .int .i64 un, .int .i64 k0, .int .i64 k1, .int .i64 k2, .int .i64 k3, .int .i64 st, .int .i64 rn] #[.int .i64 0, .int .i64 0, .int .i64 0, .int .i64 0, .int .i64 0, .int .i64 0, .int .i64 0, .int .i64 0, .int .i64 0, .int .i64 0, .int .i64 0] #[.int .i64 0, .int .i64 0, .int .i64 0] 44 44 72
  obtain ⟨V, hV⟩ : ∃ V, ((w.alloc (.cells #[.int .i64 id, .int .i64 tn, .int .i64 pg, .int .i64 pc, .int .i64 un, .int .i64 k0, .int .i64 k1, .int .i64 k2, .int .i64 k3, .int .i64 st, .int .i64 rn] 44)).alloc (.cells #[.int .i64 0, .int .i64 0, .int .i64 0, .int .i64 0, .int .i64 0, .int .i64 0, .int .i64 0, .int .i64 0, .int .i64 0, .int .i64 0, .int .i64 0] 44)).alloc (.cells #[.int .i64 0, .int .i64 0, .int .i64 0] 72) = V := ⟨_, rfl⟩
  rw [hV] at hb0 kb0 kb1 kb2
  have HV := Lib.hid hV
  have BB := Lib.hid hb0
  have Kt := Lib.hid kb0
  have HBt : Hid (w.heap.size ≤ w.heap.size) := Lib.hid (by omega)
  have Kr := Lib.hid kb1
  have HBr : Hid (w.heap.size ≤ (w.heap.size + 1)) := Lib.hid (by omega)
  have Nt_r : Hid (w.heap.size ≠ (w.heap.size + 1)) := Lib.hid (by omega)
  have Kx := Lib.hid kb2
  have HBx : Hid (w.heap.size ≤ (w.heap.size + 1 + 1)) := Lib.hid (by omega)
  have Nt_x : Hid (w.heap.size ≠ (w.heap.size + 1 + 1)) := Lib.hid (by omega)
  have Nr_x : Hid ((w.heap.size + 1) ≠ (w.heap.size + 1 + 1)) := Lib.hid (by omega)
  clear hV hb0 kb0 kb1 kb2
  go_enter Tryd.func59, Tryd.ntmps59
  go_upto_region 1 with fail
  rw [HV.out]
  clear HV
  obtain ⟨qt_0, qt_1, qt_2, qt_3, qt_4, qt_5, qt_6, qt_7, qt_8, qt_9, qt_10⟩ := Kt.out.c11
  have lt := Kt.out.lt
  go_wp2_with fail
  refine (HC.out _ BB.out).mono ?_
  rw [HR.out]
  rintro e U1 ⟨rfl, bU1⟩
  clear qt_0 qt_1 qt_2 qt_3 qt_4 qt_5 qt_6 qt_7 qt_8 qt_9 qt_10 lt
  replace BB := Lib.hid (below3 BB.out bU1)
  replace Kt := Lib.hid (Kt.out.below bU1 Kt.out.lt)
  replace Kr := Lib.hid (Kr.out.below bU1 Kr.out.lt)
  replace Kx := Lib.hid (Kx.out.below bU1 Kx.out.lt)
  clear bU1
  obtain ⟨qt_0, qt_1, qt_2, qt_3, qt_4, qt_5, qt_6, qt_7, qt_8, qt_9, qt_10⟩ := Kt.out.c11
  have lt := Kt.out.lt
  go_wp2_with fail
  refine (HU.out _ BB.out).mono ?_
  rintro e U2 ⟨rfl, bU2⟩
  clear qt_0 qt_1 qt_2 qt_3 qt_4 qt_5 qt_6 qt_7 qt_8 qt_9 qt_10 lt
  replace BB := Lib.hid (below3 BB.out bU2)
  replace Kt := Lib.hid (Kt.out.below bU2 Kt.out.lt)
  replace Kr := Lib.hid (Kr.out.below bU2 Kr.out.lt)
  replace Kx := Lib.hid (Kx.out.below bU2 Kx.out.lt)
  clear bU2
  obtain ⟨qr_0, qr_1, qr_2, qr_3, qr_4, qr_5, qr_6, qr_7, qr_8, qr_9, qr_10⟩ := Kr.out.c11
  have lr := Kr.out.lt
  obtain ⟨fr_0, fr_1, fr_2, fr_3, fr_4, fr_5, fr_6, fr_7, fr_8, fr_9, fr_10⟩ := Kr.out.f11
  obtain ⟨qx_0, qx_1, qx_2⟩ := Kx.out.c3
  have lx := Kx.out.lt
  obtain ⟨fx_0, fx_1, fx_2⟩ := Kx.out.f3
  have B_r := Lib.hid (below_set11 (g := (w.heap.size + 1)) BB.out HBr.out (.int .i64 y0) (.int .i64 y1) (.int .i64 y2) (.int .i64 y3) (.int .i64 y4) (.int .i64 y5) (.int .i64 y6) (.int .i64 y7) (.int .i64 y8) (.int .i64 y9) (.int .i64 y10))
  have S_r := Lib.hid (bk_set11 Kr.out (.int .i64 y0) (.int .i64 y1) (.int .i64 y2) (.int .i64 y3) (.int .i64 y4) (.int .i64 y5) (.int .i64 y6) (.int .i64 y7) (.int .i64 y8) (.int .i64 y9) (.int .i64 y10))
  have F_x_r := Lib.hid (far_set11 Kx.out (Nr_x.out.symm) (.int .i64 y0) (.int .i64 y1) (.int .i64 y2) (.int .i64 y3) (.int .i64 y4) (.int .i64 y5) (.int .i64 y6) (.int .i64 y7) (.int .i64 y8) (.int .i64 y9) (.int .i64 y10))
  have B_x := Lib.hid (below_set3 (g := (w.heap.size + 1 + 1)) B_r.out HBx.out (.int .i64 xo) (.int .i64 xa) (.int .i64 xb))
  have S_x := Lib.hid (bk_set3 F_x_r.out (.int .i64 xo) (.int .i64 xa) (.int .i64 xb))
  have F_r_x := Lib.hid (far_set3 S_r.out (Nr_x.out) (.int .i64 xo) (.int .i64 xa) (.int .i64 xb))
  unfold set11 set3 at B_x
  go_wp2
  obtain ⟨rr_0, rr_1, rr_2, rr_3, rr_4, rr_5, rr_6, rr_7, rr_8, rr_9, rr_10⟩ := Bk.c11 (F_r_x.out)
  obtain ⟨rx_0, rx_1, rx_2⟩ := Bk.c3 (S_x.out)
  unfold set11 set3 at rr_0 rr_1 rr_2 rr_3 rr_4 rr_5 rr_6 rr_7 rr_8 rr_9 rr_10 rx_0 rx_1 rx_2
  exact bodyPost_ret (v := .tuple #[.agg #[.int .i64 y0, .int .i64 y1, .int .i64 y2, .int .i64 y3, .int .i64 y4, .int .i64 y5, .int .i64 y6, .int .i64 y7, .int .i64 y8, .int .i64 y9, .int .i64 y10], .agg #[.int .i64 xo, .int .i64 xa, .int .i64 xb], .int .i64 e]) (by simp [results, Tryd.results59, go_sem, rr_0, rr_1, rr_2, rr_3, rr_4, rr_5, rr_6, rr_7, rr_8, rr_9, rr_10, rx_0, rx_1, rx_2]) rfl ⟨rfl, B_x.out⟩

theorem do_any (t : Tk) (A : Option Addr) (n c : Nat) (p : List I3) (w : World) (hp : Prog w A n c p) : Calls Tryd.prog 59 #[.agg (tc t), .slice A n c] w (RetB (.tuple #[.agg (tc (doR t p).1), vI (doR t p).2.1, .int .i64 (doR t p).2.2]) w) := by
  by_cases h : okF t p
  · exact do_yes t A n c p w hp h
  · exact do_no t A n c p w hp h

set_option maxRecDepth 100000 in
set_option maxHeartbeats 4000000 in
theorem next_no (t : Tk) (A : Option Addr) (n c : Nat) (p : List I3) (w : World) (hp : Prog w A n c p) (h : ¬ okF t p) : Calls Tryd.prog 58 #[.agg (tc t), .slice A n c] w (RetB (.tuple #[vI (nextR t p).1, .int .i64 (nextR t p).2]) w) := by
  have HN := Lib.hid hp.1
  have HP := Lib.hid hp
  have hn := Nat.le_trans hp.2.1.1 hp.2.1.2
  clear hp
  rw [nextR_no h]
  have HR := Lib.hid (okFB_no h)
  clear h
  have HC := Lib.hid (fun (W : World) (h : Below w.heap.size w W) => fits_any t A n c p W (HP.out.below h))
  obtain ⟨id, tn, pg, pc, un, k0, k1, k2, k3, st, rn⟩ := t
  unfold tc at HC
  unfold tc vI zI
  dsimp only at HC ⊢
  obtain ⟨kb0, kb1, hb0⟩ := lies2 w #[.int .i64 id, .int .i64 tn, .int .i64 pg, .int .i64 pc, .int .i64 un, .int .i64 k0, .int .i64 k1, .int .i64 k2, .int .i64 k3, .int .i64 st, .int .i64 rn] #[.int .i64 0, .int .i64 0, .int .i64 0] 44 50
  obtain ⟨V, hV⟩ : ∃ V, (w.alloc (.cells #[.int .i64 id, .int .i64 tn, .int .i64 pg, .int .i64 pc, .int .i64 un, .int .i64 k0, .int .i64 k1, .int .i64 k2, .int .i64 k3, .int .i64 st, .int .i64 rn] 44)).alloc (.cells #[.int .i64 0, .int .i64 0, .int .i64 0] 50) = V := ⟨_, rfl⟩
  rw [hV] at hb0 kb0 kb1
  have HV := Lib.hid hV
  have BB := Lib.hid hb0
  have Kt := Lib.hid kb0
  have HBt : Hid (w.heap.size ≤ w.heap.size) := Lib.hid (by omega)
  have Kr := Lib.hid kb1
  have HBr : Hid (w.heap.size ≤ (w.heap.size + 1)) := Lib.hid (by omega)
  have Nt_r : Hid (w.heap.size ≠ (w.heap.size + 1)) := Lib.hid (by omega)
  clear hV hb0 kb0 kb1
  go_enter Tryd.func58, Tryd.ntmps58
  go_upto_region 1 with fail
  rw [HV.out]
  clear HV
  obtain ⟨qt_0, qt_1, qt_2, qt_3, qt_4, qt_5, qt_6, qt_7, qt_8, qt_9, qt_10⟩ := Kt.out.c11
  have lt := Kt.out.lt
  go_wp2_with fail
  refine (HC.out _ BB.out).mono ?_
  rw [HR.out]
  rintro e U1 ⟨rfl, bU1⟩
  clear qt_0 qt_1 qt_2 qt_3 qt_4 qt_5 qt_6 qt_7 qt_8 qt_9 qt_10 lt
  replace BB := Lib.hid (below3 BB.out bU1)
  replace Kt := Lib.hid (Kt.out.below bU1 Kt.out.lt)
  replace Kr := Lib.hid (Kr.out.below bU1 Kr.out.lt)
  clear bU1
  obtain ⟨qr_0, qr_1, qr_2⟩ := Kr.out.c3
  have lr := Kr.out.lt
  obtain ⟨fr_0, fr_1, fr_2⟩ := Kr.out.f3
  have B_r := Lib.hid (below_set3 (g := (w.heap.size + 1)) BB.out HBr.out (.int .i64 0) (.int .i64 0) (.int .i64 0))
  have S_r := Lib.hid (bk_set3 Kr.out (.int .i64 0) (.int .i64 0) (.int .i64 0))
  unfold set3 at B_r
  go_wp2
  obtain ⟨rr_0, rr_1, rr_2⟩ := Bk.c3 (S_r.out)
  unfold set3 at rr_0 rr_1 rr_2
  exact bodyPost_ret (v := .tuple #[.agg #[.int .i64 0, .int .i64 0, .int .i64 0], .int .i64 1]) (by simp [results, Tryd.results58, go_sem, rr_0, rr_1, rr_2]) rfl ⟨rfl, B_r.out⟩

set_option maxRecDepth 100000 in
set_option maxHeartbeats 4000000 in
theorem next_yes (t : Tk) (A : Option Addr) (n c : Nat) (p : List I3) (w : World) (hp : Prog w A n c p) (h : okF t p) : Calls Tryd.prog 58 #[.agg (tc t), .slice A n c] w (RetB (.tuple #[vI (nextR t p).1, .int .i64 (nextR t p).2]) w) := by
  have HN := Lib.hid hp.1
  have HP := Lib.hid hp
  have hn := Nat.le_trans hp.2.1.1 hp.2.1.2
  clear hp
  rw [nextR_yes h]
  have HR := Lib.hid (okFB_yes h)
  have HC := Lib.hid (fun (W : World) (h : Below w.heap.size w W) => fits_any t A n c p W (HP.out.below h))
  obtain ⟨k, hk, h1, -, -, -, -, -, -⟩ := h.num
  rw [HN.out] at h1
  clear h
  obtain ⟨id, tn, pg, pc, un, k0, k1, k2, k3, st, rn⟩ := t
  unfold tc at HC
  unfold tc
  dsimp only at HC hk ⊢
  subst hk
  rw [show atI p (k : Int) = atN p k by unfold atI; rw [Int.toNat_natCast]]
  have HA := Lib.hid (fun (W : World) (h : Below w.heap.size w W) => at_any A n c p W (HP.out.below h) k h1)
  generalize atN p k = x at HA ⊢
  obtain ⟨xo, xa, xb⟩ := x
  unfold vI at HA ⊢
  dsimp only at HA ⊢
  obtain ⟨kb0, kb1, hb0⟩ := lies2 w #[.int .i64 id, .int .i64 tn, .int .i64 pg, .int .i64 k, .int .i64 un, .int .i64 k0, .int .i64 k1, .int .i64 k2, .int .i64 k3, .int .i64 st, .int .i64 rn] #[.int .i64 0, .int .i64 0, .int .i64 0] 44 50
  obtain ⟨V, hV⟩ : ∃ V, (w.alloc (.cells #[.int .i64 id, .int .i64 tn, .int .i64 pg, .int .i64 k, .int .i64 un, .int .i64 k0, .int .i64 k1, .int .i64 k2, .int .i64 k3, .int .i64 st, .int .i64 rn] 44)).alloc (.cells #[.int .i64 0, .int .i64 0, .int .i64 0] 50) = V := ⟨_, rfl⟩
  rw [hV] at hb0 kb0 kb1
  have HV := Lib.hid hV
  have BB := Lib.hid hb0
  have Kt := Lib.hid kb0
  have HBt : Hid (w.heap.size ≤ w.heap.size) := Lib.hid (by omega)
  have Kr := Lib.hid kb1
  have HBr : Hid (w.heap.size ≤ (w.heap.size + 1)) := Lib.hid (by omega)
  have Nt_r : Hid (w.heap.size ≠ (w.heap.size + 1)) := Lib.hid (by omega)
  clear hV hb0 kb0 kb1
  go_enter Tryd.func58, Tryd.ntmps58
  go_upto_region 1 with fail
  rw [HV.out]
  clear HV
  obtain ⟨qt_0, qt_1, qt_2, qt_3, qt_4, qt_5, qt_6, qt_7, qt_8, qt_9, qt_10⟩ := Kt.out.c11
  have lt := Kt.out.lt
  go_wp2_with fail
  refine (HC.out _ BB.out).mono ?_
  rw [HR.out]
  rintro e U1 ⟨rfl, bU1⟩
  clear qt_0 qt_1 qt_2 qt_3 qt_4 qt_5 qt_6 qt_7 qt_8 qt_9 qt_10 lt
  replace BB := Lib.hid (below3 BB.out bU1)
  replace Kt := Lib.hid (Kt.out.below bU1 Kt.out.lt)
  replace Kr := Lib.hid (Kr.out.below bU1 Kr.out.lt)
  clear bU1
  obtain ⟨qt_0, qt_1, qt_2, qt_3, qt_4, qt_5, qt_6, qt_7, qt_8, qt_9, qt_10⟩ := Kt.out.c11
  have lt := Kt.out.lt
  go_wp2_with fail
  refine (HA.out _ BB.out).mono ?_
  rintro e U2 ⟨rfl, bU2⟩
  clear qt_0 qt_1 qt_2 qt_3 qt_4 qt_5 qt_6 qt_7 qt_8 qt_9 qt_10 lt
  replace BB := Lib.hid (below3 BB.out bU2)
  replace Kt := Lib.hid (Kt.out.below bU2 Kt.out.lt)
  replace Kr := Lib.hid (Kr.out.below bU2 Kr.out.lt)
  clear bU2
  obtain ⟨qr_0, qr_1, qr_2⟩ := Kr.out.c3
  have lr := Kr.out.lt
  obtain ⟨fr_0, fr_1, fr_2⟩ := Kr.out.f3
  have B_r := Lib.hid (below_set3 (g := (w.heap.size + 1)) BB.out HBr.out (.int .i64 xo) (.int .i64 xa) (.int .i64 xb))
  have S_r := Lib.hid (bk_set3 Kr.out (.int .i64 xo) (.int .i64 xa) (.int .i64 xb))
  unfold set3 at B_r
  go_wp2
  obtain ⟨rr_0, rr_1, rr_2⟩ := Bk.c3 (S_r.out)
  unfold set3 at rr_0 rr_1 rr_2
  exact bodyPost_ret (v := .tuple #[.agg #[.int .i64 xo, .int .i64 xa, .int .i64 xb], .int .i64 0]) (by simp [results, Tryd.results58, go_sem, rr_0, rr_1, rr_2]) rfl ⟨rfl, B_r.out⟩

theorem next_any (t : Tk) (A : Option Addr) (n c : Nat) (p : List I3) (w : World) (hp : Prog w A n c p) : Calls Tryd.prog 58 #[.agg (tc t), .slice A n c] w (RetB (.tuple #[vI (nextR t p).1, .int .i64 (nextR t p).2]) w) := by
  by_cases h : okF t p
  · exact next_yes t A n c p w hp h
  · exact next_no t A n c p w hp h

set_option maxRecDepth 100000 in
set_option maxHeartbeats 4000000 in
theorem rnext_no (t : Tk) (A : Option Addr) (n c : Nat) (p : List I3) (w : World) (hp : Prog w A n c p) (h : ¬ okF t p) : Calls Tryd.prog 37 #[.agg (tc t), .slice A n c] w (RetB (.tuple #[vI (nextR t p).1, .int .i64 (nextR t p).2]) w) := by
  have HN := Lib.hid hp.1
  have HP := Lib.hid hp
  have hn := Nat.le_trans hp.2.1.1 hp.2.1.2
  clear hp
  rw [nextR_no h]
  have HR := Lib.hid (okFB_no h)
  clear h
  have HC := Lib.hid (fun (W : World) (h : Below w.heap.size w W) => rfits_any t A n c p W (HP.out.below h))
  obtain ⟨id, tn, pg, pc, un, k0, k1, k2, k3, st, rn⟩ := t
  unfold tc at HC
  unfold tc vI zI
  dsimp only at HC ⊢
  obtain ⟨kb0, kb1, hb0⟩ := lies2 w #[.int .i64 id, .int .i64 tn, .int .i64 pg, .int .i64 pc, .int .i64 un, .int .i64 k0, .int .i64 k1, .int .i64 k2, .int .i64 k3, .int .i64 st, .int .i64 rn] #[.int .i64 0, .int .i64 0, .int .i64 0] 44 50
  obtain ⟨V, hV⟩ : ∃ V, (w.alloc (.cells #[.int .i64 id, .int .i64 tn, .int .i64 pg, .int .i64 pc, .int .i64 un, .int .i64 k0, .int .i64 k1, .int .i64 k2, .int .i64 k3, .int .i64 st, .int .i64 rn] 44)).alloc (.cells #[.int .i64 0, .int .i64 0, .int .i64 0] 50) = V := ⟨_, rfl⟩
  rw [hV] at hb0 kb0 kb1
  have HV := Lib.hid hV
  have BB := Lib.hid hb0
  have Kt := Lib.hid kb0
  have HBt : Hid (w.heap.size ≤ w.heap.size) := Lib.hid (by omega)
  have Kr := Lib.hid kb1
  have HBr : Hid (w.heap.size ≤ (w.heap.size + 1)) := Lib.hid (by omega)
  have Nt_r : Hid (w.heap.size ≠ (w.heap.size + 1)) := Lib.hid (by omega)
  clear hV hb0 kb0 kb1
  go_enter Tryd.func37, Tryd.ntmps37
  go_upto_region 1 with fail
  rw [HV.out]
  clear HV
  obtain ⟨qt_0, qt_1, qt_2, qt_3, qt_4, qt_5, qt_6, qt_7, qt_8, qt_9, qt_10⟩ := Kt.out.c11
  have lt := Kt.out.lt
  go_wp2_with fail
  refine (HC.out _ BB.out).mono ?_
  rw [HR.out]
  rintro e U1 ⟨rfl, bU1⟩
  clear qt_0 qt_1 qt_2 qt_3 qt_4 qt_5 qt_6 qt_7 qt_8 qt_9 qt_10 lt
  replace BB := Lib.hid (below3 BB.out bU1)
  replace Kt := Lib.hid (Kt.out.below bU1 Kt.out.lt)
  replace Kr := Lib.hid (Kr.out.below bU1 Kr.out.lt)
  clear bU1
  obtain ⟨qr_0, qr_1, qr_2⟩ := Kr.out.c3
  have lr := Kr.out.lt
  obtain ⟨fr_0, fr_1, fr_2⟩ := Kr.out.f3
  have B_r := Lib.hid (below_set3 (g := (w.heap.size + 1)) BB.out HBr.out (.int .i64 0) (.int .i64 0) (.int .i64 0))
  have S_r := Lib.hid (bk_set3 Kr.out (.int .i64 0) (.int .i64 0) (.int .i64 0))
  unfold set3 at B_r
  go_wp2
  obtain ⟨rr_0, rr_1, rr_2⟩ := Bk.c3 (S_r.out)
  unfold set3 at rr_0 rr_1 rr_2
  exact bodyPost_ret (v := .tuple #[.agg #[.int .i64 0, .int .i64 0, .int .i64 0], .int .i64 1]) (by simp [results, Tryd.results37, go_sem, rr_0, rr_1, rr_2]) rfl ⟨rfl, B_r.out⟩

set_option maxRecDepth 100000 in
set_option maxHeartbeats 4000000 in
theorem rnext_yes (t : Tk) (A : Option Addr) (n c : Nat) (p : List I3) (w : World) (hp : Prog w A n c p) (h : okF t p) : Calls Tryd.prog 37 #[.agg (tc t), .slice A n c] w (RetB (.tuple #[vI (nextR t p).1, .int .i64 (nextR t p).2]) w) := by
  have HN := Lib.hid hp.1
  have HP := Lib.hid hp
  have hn := Nat.le_trans hp.2.1.1 hp.2.1.2
  clear hp
  rw [nextR_yes h]
  have HR := Lib.hid (okFB_yes h)
  have HC := Lib.hid (fun (W : World) (h : Below w.heap.size w W) => rfits_any t A n c p W (HP.out.below h))
  obtain ⟨k, hk, h1, -, -, -, -, -, -⟩ := h.num
  rw [HN.out] at h1
  clear h
  obtain ⟨id, tn, pg, pc, un, k0, k1, k2, k3, st, rn⟩ := t
  unfold tc at HC
  unfold tc
  dsimp only at HC hk ⊢
  subst hk
  rw [show atI p (k : Int) = atN p k by unfold atI; rw [Int.toNat_natCast]]
  by_cases hkn : k = n
  · rw [atN_end (by rw [HN.out]; exact hkn)]
    unfold vI
    dsimp only
    have d1 : ((k : Int) == (n : Int)) = true := beq_iff_eq.2 (by omega)
    have d2 : (k == n) = true := beq_iff_eq.2 hkn
    clear hkn
    obtain ⟨kb0, kb1, hb0⟩ := lies2 w #[.int .i64 id, .int .i64 tn, .int .i64 pg, .int .i64 k, .int .i64 un, .int .i64 k0, .int .i64 k1, .int .i64 k2, .int .i64 k3, .int .i64 st, .int .i64 rn] #[.int .i64 0, .int .i64 0, .int .i64 0] 44 50
    obtain ⟨V, hV⟩ : ∃ V, (w.alloc (.cells #[.int .i64 id, .int .i64 tn, .int .i64 pg, .int .i64 k, .int .i64 un, .int .i64 k0, .int .i64 k1, .int .i64 k2, .int .i64 k3, .int .i64 st, .int .i64 rn] 44)).alloc (.cells #[.int .i64 0, .int .i64 0, .int .i64 0] 50) = V := ⟨_, rfl⟩
    rw [hV] at hb0 kb0 kb1
    have HV := Lib.hid hV
    have BB := Lib.hid hb0
    have Kt := Lib.hid kb0
    have HBt : Hid (w.heap.size ≤ w.heap.size) := Lib.hid (by omega)
    have Kr := Lib.hid kb1
    have HBr : Hid (w.heap.size ≤ (w.heap.size + 1)) := Lib.hid (by omega)
    have Nt_r : Hid (w.heap.size ≠ (w.heap.size + 1)) := Lib.hid (by omega)
    clear hV hb0 kb0 kb1
    go_enter Tryd.func37, Tryd.ntmps37
    go_upto_region 1 with fail
    rw [HV.out]
    clear HV
    obtain ⟨qt_0, qt_1, qt_2, qt_3, qt_4, qt_5, qt_6, qt_7, qt_8, qt_9, qt_10⟩ := Kt.out.c11
    have lt := Kt.out.lt
    go_wp2_with fail
    refine (HC.out _ BB.out).mono ?_
    rw [HR.out]
    rintro e U1 ⟨rfl, bU1⟩
    clear qt_0 qt_1 qt_2 qt_3 qt_4 qt_5 qt_6 qt_7 qt_8 qt_9 qt_10 lt
    replace BB := Lib.hid (below3 BB.out bU1)
    replace Kt := Lib.hid (Kt.out.below bU1 Kt.out.lt)
    replace Kr := Lib.hid (Kr.out.below bU1 Kr.out.lt)
    clear bU1
    obtain ⟨qt_0, qt_1, qt_2, qt_3, qt_4, qt_5, qt_6, qt_7, qt_8, qt_9, qt_10⟩ := Kt.out.c11
    have lt := Kt.out.lt
    obtain ⟨qr_0, qr_1, qr_2⟩ := Kr.out.c3
    have lr := Kr.out.lt
    obtain ⟨fr_0, fr_1, fr_2⟩ := Kr.out.f3
    have B_r := Lib.hid (below_set3 (g := (w.heap.size + 1)) BB.out HBr.out (.int .i64 9) (.int .i64 0) (.int .i64 0))
    have S_r := Lib.hid (bk_set3 Kr.out (.int .i64 9) (.int .i64 0) (.int .i64 0))
    unfold set3 at B_r
    go_wp2
    obtain ⟨rr_0, rr_1, rr_2⟩ := Bk.c3 (S_r.out)
    unfold set3 at rr_0 rr_1 rr_2
    exact bodyPost_ret (v := .tuple #[.agg #[.int .i64 9, .int .i64 0, .int .i64 0], .int .i64 0]) (by simp [results, Tryd.results37, go_sem, rr_0, rr_1, rr_2]) rfl ⟨rfl, B_r.out⟩
  · have hlt : (k : Int) < n := by omega
    have d1 : ((k : Int) == (n : Int)) = false := by rw [beq_eq_false_iff_ne]; omega
    rw [atN_in (by rw [HN.out]; omega)]
    obtain ⟨b, o, rfl, hbl, g0, g1, g2⟩ := HP.out.at_ (j := k) (by omega)
    generalize jO p k = xo at g0 ⊢
    generalize jA p k = xa at g1 ⊢
    generalize jB p k = xb at g2 ⊢
    unfold vI
    dsimp only
    obtain ⟨kb0, kb1, hb0⟩ := lies2 w #[.int .i64 id, .int .i64 tn, .int .i64 pg, .int .i64 k, .int .i64 un, .int .i64 k0, .int .i64 k1, .int .i64 k2, .int .i64 k3, .int .i64 st, .int .i64 rn] #[.int .i64 0, .int .i64 0, .int .i64 0] 44 50
    obtain ⟨V, hV⟩ : ∃ V, (w.alloc (.cells #[.int .i64 id, .int .i64 tn, .int .i64 pg, .int .i64 k, .int .i64 un, .int .i64 k0, .int .i64 k1, .int .i64 k2, .int .i64 k3, .int .i64 st, .int .i64 rn] 44)).alloc (.cells #[.int .i64 0, .int .i64 0, .int .i64 0] 50) = V := ⟨_, rfl⟩
    rw [hV] at hb0 kb0 kb1
    have HV := Lib.hid hV
    have BB := Lib.hid hb0
    have Kt := Lib.hid kb0
    have HBt : Hid (w.heap.size ≤ w.heap.size) := Lib.hid (by omega)
    have Kr := Lib.hid kb1
    have HBr : Hid (w.heap.size ≤ (w.heap.size + 1)) := Lib.hid (by omega)
    have Nt_r : Hid (w.heap.size ≠ (w.heap.size + 1)) := Lib.hid (by omega)
    clear hV hb0 kb0 kb1
    go_enter Tryd.func37, Tryd.ntmps37
    go_upto_region 1 with fail
    rw [HV.out]
    clear HV
    obtain ⟨qt_0, qt_1, qt_2, qt_3, qt_4, qt_5, qt_6, qt_7, qt_8, qt_9, qt_10⟩ := Kt.out.c11
    have lt := Kt.out.lt
    go_wp2_with fail
    refine (HC.out _ BB.out).mono ?_
    rw [HR.out]
    rintro e U1 ⟨rfl, bU1⟩
    clear qt_0 qt_1 qt_2 qt_3 qt_4 qt_5 qt_6 qt_7 qt_8 qt_9 qt_10 lt
    replace BB := Lib.hid (below3 BB.out bU1)
    replace Kt := Lib.hid (Kt.out.below bU1 Kt.out.lt)
    replace Kr := Lib.hid (Kr.out.below bU1 Kr.out.lt)
    clear bU1
    obtain ⟨qt_0, qt_1, qt_2, qt_3, qt_4, qt_5, qt_6, qt_7, qt_8, qt_9, qt_10⟩ := Kt.out.c11
    have lt := Kt.out.lt
    have m0 := (BB.out.cell (p := ⟨b, _, none⟩) hbl).trans g0
    have m1 := (BB.out.cell (p := ⟨b, _, none⟩) hbl).trans g1
    have m2 := (BB.out.cell (p := ⟨b, _, none⟩) hbl).trans g2
    have hbl2 := Nat.lt_of_lt_of_le hbl BB.out.size
    obtain ⟨qr_0, qr_1, qr_2⟩ := Kr.out.c3
    have lr := Kr.out.lt
    obtain ⟨fr_0, fr_1, fr_2⟩ := Kr.out.f3
    have B_r := Lib.hid (below_set3 (g := (w.heap.size + 1)) BB.out HBr.out (.int .i64 xo) (.int .i64 xa) (.int .i64 xb))
    have S_r := Lib.hid (bk_set3 Kr.out (.int .i64 xo) (.int .i64 xa) (.int .i64 xb))
    unfold set3 at B_r
    go_wp2
    obtain ⟨rr_0, rr_1, rr_2⟩ := Bk.c3 (S_r.out)
    unfold set3 at rr_0 rr_1 rr_2
    exact bodyPost_ret (v := .tuple #[.agg #[.int .i64 xo, .int .i64 xa, .int .i64 xb], .int .i64 0]) (by simp [results, Tryd.results37, go_sem, rr_0, rr_1, rr_2]) rfl ⟨rfl, B_r.out⟩

theorem rnext_any (t : Tk) (A : Option Addr) (n c : Nat) (p : List I3) (w : World) (hp : Prog w A n c p) : Calls Tryd.prog 37 #[.agg (tc t), .slice A n c] w (RetB (.tuple #[vI (nextR t p).1, .int .i64 (nextR t p).2]) w) := by
  by_cases h : okF t p
  · exact rnext_yes t A n c p w hp h
  · exact rnext_no t A n c p w hp h

set_option maxRecDepth 100000 in
set_option maxHeartbeats 4000000 in
theorem rdo_1 (t : Tk) (A : Option Addr) (n c : Nat) (p : List I3) (w : World) (hp : Prog w A n c p) (h : ¬ okF t p) : Calls Tryd.prog 38 #[.agg (tc t), .slice A n c] w (RetB (.tuple #[.agg (tc (doR t p).1), vI (doR t p).2.1, .int .i64 (doR t p).2.2]) w) := by
  have HP := Lib.hid hp
  clear hp
  rw [doR_no h]
  have HC := Lib.hid (fun (W : World) (q : Below w.heap.size w W) => nextR_no h ▸ rnext_any t A n c p W (HP.out.below q))
  clear h
  obtain ⟨id, tn, pg, pc, un, k0, k1, k2, k3, st, rn⟩ := t
  unfold tc vI zI at HC
  unfold tc zT vI zI
  dsimp only at HC ⊢
  obtain ⟨kb0, kb1, kb2, hb0⟩ := lies3 w #[.int .i64 id, .int .i64 tn, .int .i64 pg, .int .i64 pc, .int .i64 un, .int .i64 k0, .int .i64 k1, .int .i64 k2, .int .i64 k3, .int .i64 st, .int .i64 rn] #[.int .i64 0, .int .i64 0, .int .i64 0, .int .i64 0, .int .i64 0, .int .i64 0, .int .i64 0, .int .i64 0, .int .i64 0, .int .i64 0, .int .i64 0] #[.int .i64 0, .int .i64 0, .int .i64 0] 44 44 72
  obtain ⟨V, hV⟩ : ∃ V, ((w.alloc (.cells #[.int .i64 id, .int .i64 tn, .int .i64 pg, .int .i64 pc, .int .i64 un, .int .i64 k0, .int .i64 k1, .int .i64 k2, .int .i64 k3, .int .i64 st, .int .i64 rn] 44)).alloc (.cells #[.int .i64 0, .int .i64 0, .int .i64 0, .int .i64 0, .int .i64 0, .int .i64 0, .int .i64 0, .int .i64 0, .int .i64 0, .int .i64 0, .int .i64 0] 44)).alloc (.cells #[.int .i64 0, .int .i64 0, .int .i64 0] 72) = V := ⟨_, rfl⟩
  rw [hV] at hb0 kb0 kb1 kb2
  have HV := Lib.hid hV
  have BB := Lib.hid hb0
  have Kt := Lib.hid kb0
  have HBt : Hid (w.heap.size ≤ w.heap.size) := Lib.hid (by omega)
  have Kr := Lib.hid kb1
  have HBr : Hid (w.heap.size ≤ (w.heap.size + 1)) := Lib.hid (by omega)
  have Nt_r : Hid (w.heap.size ≠ (w.heap.size + 1)) := Lib.hid (by omega)
  have Kx := Lib.hid kb2
  have HBx : Hid (w.heap.size ≤ (w.heap.size + 1 + 1)) := Lib.hid (by omega)
  have Nt_x : Hid (w.heap.size ≠ (w.heap.size + 1 + 1)) := Lib.hid (by omega)
  have Nr_x : Hid ((w.heap.size + 1) ≠ (w.heap.size + 1 + 1)) := Lib.hid (by omega)
  clear hV hb0 kb0 kb1 kb2
  go_enter Tryd.func38, Tryd.ntmps38
  go_upto_region 1 with fail
  rw [HV.out]
  clear HV
  obtain ⟨qt_0, qt_1, qt_2, qt_3, qt_4, qt_5, qt_6, qt_7, qt_8, qt_9, qt_10⟩ := Kt.out.c11
  have lt := Kt.out.lt
  go_wp2_with fail
  refine (HC.out _ BB.out).mono ?_
  rintro e U1 ⟨rfl, bU1⟩
  clear qt_0 qt_1 qt_2 qt_3 qt_4 qt_5 qt_6 qt_7 qt_8 qt_9 qt_10 lt
  replace BB := Lib.hid (below3 BB.out bU1)
  replace Kt := Lib.hid (Kt.out.below bU1 Kt.out.lt)
  replace Kr := Lib.hid (Kr.out.below bU1 Kr.out.lt)
  replace Kx := Lib.hid (Kx.out.below bU1 Kx.out.lt)
  clear bU1
  have kn := Bk.new U1 50 #[.int .i64 0, .int .i64 0, .int .i64 0]
  have ba := (Below.refl U1.heap.size U1).alloc (Nat.le_refl _) (.cells #[.int .i64 0, .int .i64 0, .int .i64 0] 50)
  have hgb := BB.out.size
  have nt_i := Nat.ne_of_lt Kt.out.lt
  have nr_i := Nat.ne_of_lt Kr.out.lt
  have nx_i := Nat.ne_of_lt Kx.out.lt
  replace BB := Lib.hid (below3 BB.out ba)
  replace Kt := Lib.hid (Kt.out.below ba Kt.out.lt)
  replace Kr := Lib.hid (Kr.out.below ba Kr.out.lt)
  replace Kx := Lib.hid (Kx.out.below ba Kx.out.lt)
  obtain ⟨gi, hg⟩ : ∃ g, U1.heap.size = g := ⟨_, rfl⟩
  obtain ⟨V2, hW⟩ : ∃ W, U1.alloc (.cells #[.int .i64 0, .int .i64 0, .int .i64 0] 50) = W := ⟨_, rfl⟩
  have Ki := Lib.hid kn
  rw [hW] at BB Ki Kt Kr Kx
  rw [hg] at Ki hgb nt_i nr_i nx_i
  have HGi := Lib.hid hg
  have HWi := Lib.hid hW
  have HBi := Lib.hid hgb
  have Nt_i := Lib.hid nt_i
  have Nr_i := Lib.hid nr_i
  have Nx_i := Lib.hid nx_i
  clear hW hg kn ba hgb nt_i nr_i nx_i
  go_upto_region 2 with fail
  rw [HWi.out]
  try rw [HGi.out]
  clear HWi HGi
  obtain ⟨qi_0, qi_1, qi_2⟩ := Ki.out.c3
  have li := Ki.out.lt
  obtain ⟨qr_0, qr_1, qr_2, qr_3, qr_4, qr_5, qr_6, qr_7, qr_8, qr_9, qr_10⟩ := Kr.out.c11
  have lr := Kr.out.lt
  obtain ⟨fr_0, fr_1, fr_2, fr_3, fr_4, fr_5, fr_6, fr_7, fr_8, fr_9, fr_10⟩ := Kr.out.f11
  obtain ⟨qx_0, qx_1, qx_2⟩ := Kx.out.c3
  have lx := Kx.out.lt
  obtain ⟨fx_0, fx_1, fx_2⟩ := Kx.out.f3
  have B_r := Lib.hid (below_set11 (g := (w.heap.size + 1)) BB.out HBr.out (.int .i64 0) (.int .i64 0) (.int .i64 0) (.int .i64 0) (.int .i64 0) (.int .i64 0) (.int .i64 0) (.int .i64 0) (.int .i64 0) (.int .i64 0) (.int .i64 0))
  have S_r := Lib.hid (bk_set11 Kr.out (.int .i64 0) (.int .i64 0) (.int .i64 0) (.int .i64 0) (.int .i64 0) (.int .i64 0) (.int .i64 0) (.int .i64 0) (.int .i64 0) (.int .i64 0) (.int .i64 0))
  have F_x_r := Lib.hid (far_set11 Kx.out (Nr_x.out.symm) (.int .i64 0) (.int .i64 0) (.int .i64 0) (.int .i64 0) (.int .i64 0) (.int .i64 0) (.int .i64 0) (.int .i64 0) (.int .i64 0) (.int .i64 0) (.int .i64 0))
  have B_x := Lib.hid (below_set3 (g := (w.heap.size + 1 + 1)) B_r.out HBx.out (.int .i64 0) (.int .i64 0) (.int .i64 0))
  have S_x := Lib.hid (bk_set3 F_x_r.out (.int .i64 0) (.int .i64 0) (.int .i64 0))
  have F_r_x := Lib.hid (far_set3 S_r.out (Nr_x.out) (.int .i64 0) (.int .i64 0) (.int .i64 0))
  unfold set11 set3 at B_x
  go_wp2
  obtain ⟨rr_0, rr_1, rr_2, rr_3, rr_4, rr_5, rr_6, rr_7, rr_8, rr_9, rr_10⟩ := Bk.c11 (F_r_x.out)
  obtain ⟨rx_0, rx_1, rx_2⟩ := Bk.c3 (S_x.out)
  unfold set11 set3 at rr_0 rr_1 rr_2 rr_3 rr_4 rr_5 rr_6 rr_7 rr_8 rr_9 rr_10 rx_0 rx_1 rx_2
  exact bodyPost_ret (v := .tuple #[.agg #[.int .i64 0, .int .i64 0, .int .i64 0, .int .i64 0, .int .i64 0, .int .i64 0, .int .i64 0, .int .i64 0, .int .i64 0, .int .i64 0, .int .i64 0], .agg #[.int .i64 0, .int .i64 0, .int .i64 0], .int .i64 1]) (by simp [results, Tryd.results38, go_sem, rr_0, rr_1, rr_2, rr_3, rr_4, rr_5, rr_6, rr_7, rr_8, rr_9, rr_10, rx_0, rx_1, rx_2]) rfl ⟨rfl, B_x.out⟩

set_option maxRecDepth 100000 in
set_option maxHeartbeats 4000000 in
theorem rdo_2 (t : Tk) (A : Option Addr) (n c : Nat) (p : List I3) (w : World) (hp : Prog w A n c p) (h : okF t p) (hs : t.st ≠ 2) : Calls Tryd.prog 38 #[.agg (tc t), .slice A n c] w (RetB (.tuple #[.agg (tc (doR t p).1), vI (doR t p).2.1, .int .i64 (doR t p).2.2]) w) := by
  have HP := Lib.hid hp
  have HN := Lib.hid hp.1
  have hn := Nat.le_trans hp.2.1.1 hp.2.1.2
  clear hp
  obtain ⟨k, hk, h1, h2, h3, h4, h5, h6, h7⟩ := h.num
  have hwk := fun q => h.work hk q
  rw [HN.out] at h1 h2 hwk
  have HC := Lib.hid (fun (W : World) (q : Below w.heap.size w W) => nextR_yes h ▸ rnext_any t A n c p W (HP.out.below q))
  rw [doR_yes h]
  have e : atI p t.pc = atN p k := by unfold atI; rw [hk, Int.toNat_natCast]
  rw [e] at HC
  rw [unitR_1 hs]
  try rw [e]
  try rw [e] at hm
  try rw [e] at hv
  clear h e
  generalize atN p k = x at *
  obtain ⟨xo, xa, xb⟩ := x
  obtain ⟨id, tn, pg, pc, un, k0, k1, k2, k3, st, rn⟩ := t
  unfold tc vI at HC
  unfold tc vI
  try unfold zT
  try unfold zI
  dsimp only at *
  subst hk
  clear hwk h7
  have d1 : (st == 2) = false := by simpa using hs
  have d2 : (st != 2) = true := by simpa using hs
  obtain ⟨kb0, kb1, kb2, hb0⟩ := lies3 w #[.int .i64 id, .int .i64 tn, .int .i64 pg, .int .i64 k, .int .i64 un, .int .i64 k0, .int .i64 k1, .int .i64 k2, .int .i64 k3, .int .i64 st, .int .i64 rn] #[.int .i64 0, .int .i64 0, .int .i64 0, .int .i64 0, .int .i64 0, .int .i64 0, .int .i64 0, .int .i64 0, .int .i64 0, .int .i64 0, .int .i64 0] #[.int .i64 0, .int .i64 0, .int .i64 0] 44 44 72
  obtain ⟨V, hV⟩ : ∃ V, ((w.alloc (.cells #[.int .i64 id, .int .i64 tn, .int .i64 pg, .int .i64 k, .int .i64 un, .int .i64 k0, .int .i64 k1, .int .i64 k2, .int .i64 k3, .int .i64 st, .int .i64 rn] 44)).alloc (.cells #[.int .i64 0, .int .i64 0, .int .i64 0, .int .i64 0, .int .i64 0, .int .i64 0, .int .i64 0, .int .i64 0, .int .i64 0, .int .i64 0, .int .i64 0] 44)).alloc (.cells #[.int .i64 0, .int .i64 0, .int .i64 0] 72) = V := ⟨_, rfl⟩
  rw [hV] at hb0 kb0 kb1 kb2
  have HV := Lib.hid hV
  have BB := Lib.hid hb0
  have Kt := Lib.hid kb0
  have HBt : Hid (w.heap.size ≤ w.heap.size) := Lib.hid (by omega)
  have Kr := Lib.hid kb1
  have HBr : Hid (w.heap.size ≤ (w.heap.size + 1)) := Lib.hid (by omega)
  have Nt_r : Hid (w.heap.size ≠ (w.heap.size + 1)) := Lib.hid (by omega)
  have Kx := Lib.hid kb2
  have HBx : Hid (w.heap.size ≤ (w.heap.size + 1 + 1)) := Lib.hid (by omega)
  have Nt_x : Hid (w.heap.size ≠ (w.heap.size + 1 + 1)) := Lib.hid (by omega)
  have Nr_x : Hid ((w.heap.size + 1) ≠ (w.heap.size + 1 + 1)) := Lib.hid (by omega)
  clear hV hb0 kb0 kb1 kb2
  go_enter Tryd.func38, Tryd.ntmps38
  go_upto_region 1 with fail
  rw [HV.out]
  clear HV
  obtain ⟨qt_0, qt_1, qt_2, qt_3, qt_4, qt_5, qt_6, qt_7, qt_8, qt_9, qt_10⟩ := Kt.out.c11
  have lt := Kt.out.lt
  go_wp2_with fail
  refine (HC.out _ BB.out).mono ?_
  rintro e U1 ⟨rfl, bU1⟩
  clear qt_0 qt_1 qt_2 qt_3 qt_4 qt_5 qt_6 qt_7 qt_8 qt_9 qt_10 lt
  replace BB := Lib.hid (below3 BB.out bU1)
  replace Kt := Lib.hid (Kt.out.below bU1 Kt.out.lt)
  replace Kr := Lib.hid (Kr.out.below bU1 Kr.out.lt)
  replace Kx := Lib.hid (Kx.out.below bU1 Kx.out.lt)
  clear bU1
  have kn := Bk.new U1 50 #[.int .i64 xo, .int .i64 xa, .int .i64 xb]
  have ba := (Below.refl U1.heap.size U1).alloc (Nat.le_refl _) (.cells #[.int .i64 xo, .int .i64 xa, .int .i64 xb] 50)
  have hgb := BB.out.size
  have nt_i := Nat.ne_of_lt Kt.out.lt
  have nr_i := Nat.ne_of_lt Kr.out.lt
  have nx_i := Nat.ne_of_lt Kx.out.lt
  replace BB := Lib.hid (below3 BB.out ba)
  replace Kt := Lib.hid (Kt.out.below ba Kt.out.lt)
  replace Kr := Lib.hid (Kr.out.below ba Kr.out.lt)
  replace Kx := Lib.hid (Kx.out.below ba Kx.out.lt)
  obtain ⟨gi, hg⟩ : ∃ g, U1.heap.size = g := ⟨_, rfl⟩
  obtain ⟨V2, hW⟩ : ∃ W, U1.alloc (.cells #[.int .i64 xo, .int .i64 xa, .int .i64 xb] 50) = W := ⟨_, rfl⟩
  have Ki := Lib.hid kn
  rw [hW] at BB Ki Kt Kr Kx
  rw [hg] at Ki hgb nt_i nr_i nx_i
  have HGi := Lib.hid hg
  have HWi := Lib.hid hW
  have HBi := Lib.hid hgb
  have Nt_i := Lib.hid nt_i
  have Nr_i := Lib.hid nr_i
  have Nx_i := Lib.hid nx_i
  clear hW hg kn ba hgb nt_i nr_i nx_i
  go_upto_region 2 with fail
  rw [HWi.out]
  try rw [HGi.out]
  clear HWi HGi
  obtain ⟨qt_0, qt_1, qt_2, qt_3, qt_4, qt_5, qt_6, qt_7, qt_8, qt_9, qt_10⟩ := Kt.out.c11
  have lt := Kt.out.lt
  obtain ⟨qi_0, qi_1, qi_2⟩ := Ki.out.c3
  have li := Ki.out.lt
  obtain ⟨qr_0, qr_1, qr_2, qr_3, qr_4, qr_5, qr_6, qr_7, qr_8, qr_9, qr_10⟩ := Kr.out.c11
  have lr := Kr.out.lt
  obtain ⟨fr_0, fr_1, fr_2, fr_3, fr_4, fr_5, fr_6, fr_7, fr_8, fr_9, fr_10⟩ := Kr.out.f11
  obtain ⟨qx_0, qx_1, qx_2⟩ := Kx.out.c3
  have lx := Kx.out.lt
  obtain ⟨fx_0, fx_1, fx_2⟩ := Kx.out.f3
  have B_r := Lib.hid (below_set11 (g := (w.heap.size + 1)) BB.out HBr.out (.int .i64 0) (.int .i64 0) (.int .i64 0) (.int .i64 0) (.int .i64 0) (.int .i64 0) (.int .i64 0) (.int .i64 0) (.int .i64 0) (.int .i64 0) (.int .i64 0))
  have S_r := Lib.hid (bk_set11 Kr.out (.int .i64 0) (.int .i64 0) (.int .i64 0) (.int .i64 0) (.int .i64 0) (.int .i64 0) (.int .i64 0) (.int .i64 0) (.int .i64 0) (.int .i64 0) (.int .i64 0))
  have F_x_r := Lib.hid (far_set11 Kx.out (Nr_x.out.symm) (.int .i64 0) (.int .i64 0) (.int .i64 0) (.int .i64 0) (.int .i64 0) (.int .i64 0) (.int .i64 0) (.int .i64 0) (.int .i64 0) (.int .i64 0) (.int .i64 0))
  have B_x := Lib.hid (below_set3 (g := (w.heap.size + 1 + 1)) B_r.out HBx.out (.int .i64 0) (.int .i64 0) (.int .i64 0))
  have S_x := Lib.hid (bk_set3 F_x_r.out (.int .i64 0) (.int .i64 0) (.int .i64 0))
  have F_r_x := Lib.hid (far_set3 S_r.out (Nr_x.out) (.int .i64 0) (.int .i64 0) (.int .i64 0))
  unfold set11 set3 at B_x
  go_wp2
  obtain ⟨rr_0, rr_1, rr_2, rr_3, rr_4, rr_5, rr_6, rr_7, rr_8, rr_9, rr_10⟩ := Bk.c11 (F_r_x.out)
  obtain ⟨rx_0, rx_1, rx_2⟩ := Bk.c3 (S_x.out)
  unfold set11 set3 at rr_0 rr_1 rr_2 rr_3 rr_4 rr_5 rr_6 rr_7 rr_8 rr_9 rr_10 rx_0 rx_1 rx_2
  exact bodyPost_ret (v := .tuple #[.agg #[.int .i64 0, .int .i64 0, .int .i64 0, .int .i64 0, .int .i64 0, .int .i64 0, .int .i64 0, .int .i64 0, .int .i64 0, .int .i64 0, .int .i64 0], .agg #[.int .i64 0, .int .i64 0, .int .i64 0], .int .i64 9]) (by simp [results, Tryd.results38, go_sem, rr_0, rr_1, rr_2, rr_3, rr_4, rr_5, rr_6, rr_7, rr_8, rr_9, rr_10, rx_0, rx_1, rx_2]) rfl ⟨rfl, B_x.out⟩

set_option maxRecDepth 100000 in
set_option maxHeartbeats 4000000 in
theorem rdo_3 (t : Tk) (A : Option Addr) (n c : Nat) (p : List I3) (w : World) (hp : Prog w A n c p) (h : okF t p) (hs : t.st = 2) (hr : t.rn = 1099511627776) : Calls Tryd.prog 38 #[.agg (tc t), .slice A n c] w (RetB (.tuple #[.agg (tc (doR t p).1), vI (doR t p).2.1, .int .i64 (doR t p).2.2]) w) := by
  have HP := Lib.hid hp
  have HN := Lib.hid hp.1
  have hn := Nat.le_trans hp.2.1.1 hp.2.1.2
  clear hp
  obtain ⟨k, hk, h1, h2, h3, h4, h5, h6, h7⟩ := h.num
  have hwk := fun q => h.work hk q
  rw [HN.out] at h1 h2 hwk
  have HC := Lib.hid (fun (W : World) (q : Below w.heap.size w W) => nextR_yes h ▸ rnext_any t A n c p W (HP.out.below q))
  rw [doR_yes h]
  have e : atI p t.pc = atN p k := by unfold atI; rw [hk, Int.toNat_natCast]
  rw [e] at HC
  rw [unitR_2 hs hr]
  try rw [e]
  try rw [e] at hm
  try rw [e] at hv
  clear h e
  generalize atN p k = x at *
  obtain ⟨xo, xa, xb⟩ := x
  obtain ⟨id, tn, pg, pc, un, k0, k1, k2, k3, st, rn⟩ := t
  unfold tc vI at HC
  unfold tc vI
  try unfold zT
  try unfold zI
  dsimp only at *
  subst hk
  clear hwk h7
  have d1 : (st == 2) = true := by simpa using hs
  have d3 : (st != 2) = false := by simpa using hs
  have d2 : (rn == 1099511627776) = true := by simpa using hr
  clear hs hr
  obtain ⟨kb0, kb1, kb2, hb0⟩ := lies3 w #[.int .i64 id, .int .i64 tn, .int .i64 pg, .int .i64 k, .int .i64 un, .int .i64 k0, .int .i64 k1, .int .i64 k2, .int .i64 k3, .int .i64 st, .int .i64 rn] #[.int .i64 0, .int .i64 0, .int .i64 0, .int .i64 0, .int .i64 0, .int .i64 0, .int .i64 0, .int .i64 0, .int .i64 0, .int .i64 0, .int .i64 0] #[.int .i64 0, .int .i64 0, .int .i64 0] 44 44 72
  obtain ⟨V, hV⟩ : ∃ V, ((w.alloc (.cells #[.int .i64 id, .int .i64 tn, .int .i64 pg, .int .i64 k, .int .i64 un, .int .i64 k0, .int .i64 k1, .int .i64 k2, .int .i64 k3, .int .i64 st, .int .i64 rn] 44)).alloc (.cells #[.int .i64 0, .int .i64 0, .int .i64 0, .int .i64 0, .int .i64 0, .int .i64 0, .int .i64 0, .int .i64 0, .int .i64 0, .int .i64 0, .int .i64 0] 44)).alloc (.cells #[.int .i64 0, .int .i64 0, .int .i64 0] 72) = V := ⟨_, rfl⟩
  rw [hV] at hb0 kb0 kb1 kb2
  have HV := Lib.hid hV
  have BB := Lib.hid hb0
  have Kt := Lib.hid kb0
  have HBt : Hid (w.heap.size ≤ w.heap.size) := Lib.hid (by omega)
  have Kr := Lib.hid kb1
  have HBr : Hid (w.heap.size ≤ (w.heap.size + 1)) := Lib.hid (by omega)
  have Nt_r : Hid (w.heap.size ≠ (w.heap.size + 1)) := Lib.hid (by omega)
  have Kx := Lib.hid kb2
  have HBx : Hid (w.heap.size ≤ (w.heap.size + 1 + 1)) := Lib.hid (by omega)
  have Nt_x : Hid (w.heap.size ≠ (w.heap.size + 1 + 1)) := Lib.hid (by omega)
  have Nr_x : Hid ((w.heap.size + 1) ≠ (w.heap.size + 1 + 1)) := Lib.hid (by omega)
  clear hV hb0 kb0 kb1 kb2
  go_enter Tryd.func38, Tryd.ntmps38
  go_upto_region 1 with fail
  rw [HV.out]
  clear HV
  obtain ⟨qt_0, qt_1, qt_2, qt_3, qt_4, qt_5, qt_6, qt_7, qt_8, qt_9, qt_10⟩ := Kt.out.c11
  have lt := Kt.out.lt
  go_wp2_with fail
  refine (HC.out _ BB.out).mono ?_
  rintro e U1 ⟨rfl, bU1⟩
  clear qt_0 qt_1 qt_2 qt_3 qt_4 qt_5 qt_6 qt_7 qt_8 qt_9 qt_10 lt
  replace BB := Lib.hid (below3 BB.out bU1)
  replace Kt := Lib.hid (Kt.out.below bU1 Kt.out.lt)
  replace Kr := Lib.hid (Kr.out.below bU1 Kr.out.lt)
  replace Kx := Lib.hid (Kx.out.below bU1 Kx.out.lt)
  clear bU1
  have kn := Bk.new U1 50 #[.int .i64 xo, .int .i64 xa, .int .i64 xb]
  have ba := (Below.refl U1.heap.size U1).alloc (Nat.le_refl _) (.cells #[.int .i64 xo, .int .i64 xa, .int .i64 xb] 50)
  have hgb := BB.out.size
  have nt_i := Nat.ne_of_lt Kt.out.lt
  have nr_i := Nat.ne_of_lt Kr.out.lt
  have nx_i := Nat.ne_of_lt Kx.out.lt
  replace BB := Lib.hid (below3 BB.out ba)
  replace Kt := Lib.hid (Kt.out.below ba Kt.out.lt)
  replace Kr := Lib.hid (Kr.out.below ba Kr.out.lt)
  replace Kx := Lib.hid (Kx.out.below ba Kx.out.lt)
  obtain ⟨gi, hg⟩ : ∃ g, U1.heap.size = g := ⟨_, rfl⟩
  obtain ⟨V2, hW⟩ : ∃ W, U1.alloc (.cells #[.int .i64 xo, .int .i64 xa, .int .i64 xb] 50) = W := ⟨_, rfl⟩
  have Ki := Lib.hid kn
  rw [hW] at BB Ki Kt Kr Kx
  rw [hg] at Ki hgb nt_i nr_i nx_i
  have HGi := Lib.hid hg
  have HWi := Lib.hid hW
  have HBi := Lib.hid hgb
  have Nt_i := Lib.hid nt_i
  have Nr_i := Lib.hid nr_i
  have Nx_i := Lib.hid nx_i
  clear hW hg kn ba hgb nt_i nr_i nx_i
  go_upto_region 2 with fail
  rw [HWi.out]
  try rw [HGi.out]
  clear HWi HGi
  obtain ⟨qt_0, qt_1, qt_2, qt_3, qt_4, qt_5, qt_6, qt_7, qt_8, qt_9, qt_10⟩ := Kt.out.c11
  have lt := Kt.out.lt
  obtain ⟨qi_0, qi_1, qi_2⟩ := Ki.out.c3
  have li := Ki.out.lt
  obtain ⟨qr_0, qr_1, qr_2, qr_3, qr_4, qr_5, qr_6, qr_7, qr_8, qr_9, qr_10⟩ := Kr.out.c11
  have lr := Kr.out.lt
  obtain ⟨fr_0, fr_1, fr_2, fr_3, fr_4, fr_5, fr_6, fr_7, fr_8, fr_9, fr_10⟩ := Kr.out.f11
  obtain ⟨qx_0, qx_1, qx_2⟩ := Kx.out.c3
  have lx := Kx.out.lt
  obtain ⟨fx_0, fx_1, fx_2⟩ := Kx.out.f3
  have B_r := Lib.hid (below_set11 (g := (w.heap.size + 1)) BB.out HBr.out (.int .i64 0) (.int .i64 0) (.int .i64 0) (.int .i64 0) (.int .i64 0) (.int .i64 0) (.int .i64 0) (.int .i64 0) (.int .i64 0) (.int .i64 0) (.int .i64 0))
  have S_r := Lib.hid (bk_set11 Kr.out (.int .i64 0) (.int .i64 0) (.int .i64 0) (.int .i64 0) (.int .i64 0) (.int .i64 0) (.int .i64 0) (.int .i64 0) (.int .i64 0) (.int .i64 0) (.int .i64 0))
  have F_x_r := Lib.hid (far_set11 Kx.out (Nr_x.out.symm) (.int .i64 0) (.int .i64 0) (.int .i64 0) (.int .i64 0) (.int .i64 0) (.int .i64 0) (.int .i64 0) (.int .i64 0) (.int .i64 0) (.int .i64 0) (.int .i64 0))
  have B_x := Lib.hid (below_set3 (g := (w.heap.size + 1 + 1)) B_r.out HBx.out (.int .i64 0) (.int .i64 0) (.int .i64 0))
  have S_x := Lib.hid (bk_set3 F_x_r.out (.int .i64 0) (.int .i64 0) (.int .i64 0))
  have F_r_x := Lib.hid (far_set3 S_r.out (Nr_x.out) (.int .i64 0) (.int .i64 0) (.int .i64 0))
  unfold set11 set3 at B_x
  go_wp2
  obtain ⟨rr_0, rr_1, rr_2, rr_3, rr_4, rr_5, rr_6, rr_7, rr_8, rr_9, rr_10⟩ := Bk.c11 (F_r_x.out)
  obtain ⟨rx_0, rx_1, rx_2⟩ := Bk.c3 (S_x.out)
  unfold set11 set3 at rr_0 rr_1 rr_2 rr_3 rr_4 rr_5 rr_6 rr_7 rr_8 rr_9 rr_10 rx_0 rx_1 rx_2
  exact bodyPost_ret (v := .tuple #[.agg #[.int .i64 0, .int .i64 0, .int .i64 0, .int .i64 0, .int .i64 0, .int .i64 0, .int .i64 0, .int .i64 0, .int .i64 0, .int .i64 0, .int .i64 0], .agg #[.int .i64 0, .int .i64 0, .int .i64 0], .int .i64 4]) (by simp [results, Tryd.results38, go_sem, rr_0, rr_1, rr_2, rr_3, rr_4, rr_5, rr_6, rr_7, rr_8, rr_9, rr_10, rx_0, rx_1, rx_2]) rfl ⟨rfl, B_x.out⟩

set_option maxRecDepth 100000 in
set_option maxHeartbeats 4000000 in
theorem rdo_4 (t : Tk) (A : Option Addr) (n c : Nat) (p : List I3) (w : World) (hp : Prog w A n c p) (h : okF t p) (hs : t.st = 2) (hr : t.rn ≠ 1099511627776) (hm : (atI p t.pc).1 = 1) (hv : t.un + 1 ≠ (atI p t.pc).2.1) : Calls Tryd.prog 38 #[.agg (tc t), .slice A n c] w (RetB (.tuple #[.agg (tc (doR t p).1), vI (doR t p).2.1, .int .i64 (doR t p).2.2]) w) := by
  have HP := Lib.hid hp
  have HN := Lib.hid hp.1
  have hn := Nat.le_trans hp.2.1.1 hp.2.1.2
  clear hp
  obtain ⟨k, hk, h1, h2, h3, h4, h5, h6, h7⟩ := h.num
  have hwk := fun q => h.work hk q
  rw [HN.out] at h1 h2 hwk
  have HC := Lib.hid (fun (W : World) (q : Below w.heap.size w W) => nextR_yes h ▸ rnext_any t A n c p W (HP.out.below q))
  rw [doR_yes h]
  have e : atI p t.pc = atN p k := by unfold atI; rw [hk, Int.toNat_natCast]
  rw [e] at HC
  rw [unitR_3 hs hr hm]
  try rw [e]
  try rw [e] at hm
  try rw [e] at hv
  clear h e
  generalize atN p k = x at *
  obtain ⟨xo, xa, xb⟩ := x
  obtain ⟨id, tn, pg, pc, un, k0, k1, k2, k3, st, rn⟩ := t
  unfold tc vI at HC
  unfold tc vI
  try unfold zT
  try unfold zI
  dsimp only at *
  subst hk
  have d1 : (st == 2) = true := by simpa using hs
  have d3 : (st != 2) = false := by simpa using hs
  have d4 : (rn == 1099511627776) = false := by simpa using hr
  have hrn : rn + 1 ≤ 1099511627776 := by omega
  obtain ⟨hu1, hu2⟩ := hwk hm
  have d2 : (xo == 1) = true := by simpa using hm
  unfold goW
  dsimp only
  have hne : ¬ (un + 1 = xa) := by omega
  rw [if_neg hne]
  dsimp only
  have d5 : un + 1 < xa := by omega
  clear hs hr hm hwk hne h7
  obtain ⟨kb0, kb1, kb2, hb0⟩ := lies3 w #[.int .i64 id, .int .i64 tn, .int .i64 pg, .int .i64 k, .int .i64 un, .int .i64 k0, .int .i64 k1, .int .i64 k2, .int .i64 k3, .int .i64 st, .int .i64 rn] #[.int .i64 0, .int .i64 0, .int .i64 0, .int .i64 0, .int .i64 0, .int .i64 0, .int .i64 0, .int .i64 0, .int .i64 0, .int .i64 0, .int .i64 0] #[.int .i64 0, .int .i64 0, .int .i64 0] 44 44 72
  obtain ⟨V, hV⟩ : ∃ V, ((w.alloc (.cells #[.int .i64 id, .int .i64 tn, .int .i64 pg, .int .i64 k, .int .i64 un, .int .i64 k0, .int .i64 k1, .int .i64 k2, .int .i64 k3, .int .i64 st, .int .i64 rn] 44)).alloc (.cells #[.int .i64 0, .int .i64 0, .int .i64 0, .int .i64 0, .int .i64 0, .int .i64 0, .int .i64 0, .int .i64 0, .int .i64 0, .int .i64 0, .int .i64 0] 44)).alloc (.cells #[.int .i64 0, .int .i64 0, .int .i64 0] 72) = V := ⟨_, rfl⟩
  rw [hV] at hb0 kb0 kb1 kb2
  have HV := Lib.hid hV
  have BB := Lib.hid hb0
  have Kt := Lib.hid kb0
  have HBt : Hid (w.heap.size ≤ w.heap.size) := Lib.hid (by omega)
  have Kr := Lib.hid kb1
  have HBr : Hid (w.heap.size ≤ (w.heap.size + 1)) := Lib.hid (by omega)
  have Nt_r : Hid (w.heap.size ≠ (w.heap.size + 1)) := Lib.hid (by omega)
  have Kx := Lib.hid kb2
  have HBx : Hid (w.heap.size ≤ (w.heap.size + 1 + 1)) := Lib.hid (by omega)
  have Nt_x : Hid (w.heap.size ≠ (w.heap.size + 1 + 1)) := Lib.hid (by omega)
  have Nr_x : Hid ((w.heap.size + 1) ≠ (w.heap.size + 1 + 1)) := Lib.hid (by omega)
  clear hV hb0 kb0 kb1 kb2
  go_enter Tryd.func38, Tryd.ntmps38
  go_upto_region 1 with fail
  rw [HV.out]
  clear HV
  obtain ⟨qt_0, qt_1, qt_2, qt_3, qt_4, qt_5, qt_6, qt_7, qt_8, qt_9, qt_10⟩ := Kt.out.c11
  have lt := Kt.out.lt
  go_wp2_with fail
  refine (HC.out _ BB.out).mono ?_
  rintro e U1 ⟨rfl, bU1⟩
  clear qt_0 qt_1 qt_2 qt_3 qt_4 qt_5 qt_6 qt_7 qt_8 qt_9 qt_10 lt
  replace BB := Lib.hid (below3 BB.out bU1)
  replace Kt := Lib.hid (Kt.out.below bU1 Kt.out.lt)
  replace Kr := Lib.hid (Kr.out.below bU1 Kr.out.lt)
  replace Kx := Lib.hid (Kx.out.below bU1 Kx.out.lt)
  clear bU1
  have kn := Bk.new U1 50 #[.int .i64 xo, .int .i64 xa, .int .i64 xb]
  have ba := (Below.refl U1.heap.size U1).alloc (Nat.le_refl _) (.cells #[.int .i64 xo, .int .i64 xa, .int .i64 xb] 50)
  have hgb := BB.out.size
  have nt_i := Nat.ne_of_lt Kt.out.lt
  have nr_i := Nat.ne_of_lt Kr.out.lt
  have nx_i := Nat.ne_of_lt Kx.out.lt
  replace BB := Lib.hid (below3 BB.out ba)
  replace Kt := Lib.hid (Kt.out.below ba Kt.out.lt)
  replace Kr := Lib.hid (Kr.out.below ba Kr.out.lt)
  replace Kx := Lib.hid (Kx.out.below ba Kx.out.lt)
  obtain ⟨gi, hg⟩ : ∃ g, U1.heap.size = g := ⟨_, rfl⟩
  obtain ⟨V2, hW⟩ : ∃ W, U1.alloc (.cells #[.int .i64 xo, .int .i64 xa, .int .i64 xb] 50) = W := ⟨_, rfl⟩
  have Ki := Lib.hid kn
  rw [hW] at BB Ki Kt Kr Kx
  rw [hg] at Ki hgb nt_i nr_i nx_i
  have HGi := Lib.hid hg
  have HWi := Lib.hid hW
  have HBi := Lib.hid hgb
  have Nt_i := Lib.hid nt_i
  have Nr_i := Lib.hid nr_i
  have Nx_i := Lib.hid nx_i
  clear hW hg kn ba hgb nt_i nr_i nx_i
  go_upto_region 2 with fail
  rw [HWi.out]
  try rw [HGi.out]
  clear HWi HGi
  obtain ⟨qt_0, qt_1, qt_2, qt_3, qt_4, qt_5, qt_6, qt_7, qt_8, qt_9, qt_10⟩ := Kt.out.c11
  have lt := Kt.out.lt
  obtain ⟨qi_0, qi_1, qi_2⟩ := Ki.out.c3
  have li := Ki.out.lt
  obtain ⟨ft_0, ft_1, ft_2, ft_3, ft_4, ft_5, ft_6, ft_7, ft_8, ft_9, ft_10⟩ := Kt.out.f11
  have x0 : Bk _ w.heap.size 44 #[.int .i64 id, .int .i64 tn, .int .i64 pg, .int .i64 k, .int .i64 un, .int .i64 k0, .int .i64 k1, .int .i64 k2, .int .i64 k3, .int .i64 st, .int .i64 (rn + 1)] := Kt.out.set_ 10 (.int .i64 (rn + 1))
  have x_r := Kr.out.far (p := ⟨w.heap.size, 10, none⟩) Nt_r.out.symm (.int .i64 (rn + 1))
  have x_x := Kx.out.far (p := ⟨w.heap.size, 10, none⟩) Nt_x.out.symm (.int .i64 (rn + 1))
  have x_i := Ki.out.far (p := ⟨w.heap.size, 10, none⟩) Nt_i.out.symm (.int .i64 (rn + 1))
  have xb := BB.out.setCell (p := ⟨w.heap.size, 10, none⟩) HBt.out (.int .i64 (rn + 1))
  obtain ⟨X3, hX⟩ : ∃ X, World.setCell V2 ⟨w.heap.size, 10, none⟩ (.int .i64 (rn + 1)) = X := ⟨_, rfl⟩
  rw [hX] at x0 xb x_r x_x x_i
  have HX := Lib.hid hX
  replace Kt := Lib.hid x0
  replace BB := Lib.hid xb
  replace Kr := Lib.hid x_r
  replace Kx := Lib.hid x_x
  replace Ki := Lib.hid x_i
  clear hX x0 xb x_r x_x x_i
  go_upto_region 9 with fail
  rw [HX.out]
  clear HX
  clear qt_0 qt_1 qt_2 qt_3 qt_4 qt_5 qt_6 qt_7 qt_8 qt_9 qt_10 lt qi_0 qi_1 qi_2 li ft_0 ft_1 ft_2 ft_3 ft_4 ft_5 ft_6 ft_7 ft_8 ft_9 ft_10
  obtain ⟨qt_0, qt_1, qt_2, qt_3, qt_4, qt_5, qt_6, qt_7, qt_8, qt_9, qt_10⟩ := Kt.out.c11
  have lt := Kt.out.lt
  obtain ⟨ft_0, ft_1, ft_2, ft_3, ft_4, ft_5, ft_6, ft_7, ft_8, ft_9, ft_10⟩ := Kt.out.f11
  obtain ⟨qi_0, qi_1, qi_2⟩ := Ki.out.c3
  have li := Ki.out.lt
  obtain ⟨fi_0, fi_1, fi_2⟩ := Ki.out.f3
  have x0 : Bk _ w.heap.size 44 #[.int .i64 id, .int .i64 tn, .int .i64 pg, .int .i64 k, .int .i64 (un + 1), .int .i64 k0, .int .i64 k1, .int .i64 k2, .int .i64 k3, .int .i64 st, .int .i64 (rn + 1)] := Kt.out.set_ 4 (.int .i64 (un + 1))
  have x_r := Kr.out.far (p := ⟨w.heap.size, 4, none⟩) Nt_r.out.symm (.int .i64 (un + 1))
  have x_x := Kx.out.far (p := ⟨w.heap.size, 4, none⟩) Nt_x.out.symm (.int .i64 (un + 1))
  have x_i := Ki.out.far (p := ⟨w.heap.size, 4, none⟩) Nt_i.out.symm (.int .i64 (un + 1))
  have xb := BB.out.setCell (p := ⟨w.heap.size, 4, none⟩) HBt.out (.int .i64 (un + 1))
  obtain ⟨X4, hX⟩ : ∃ X, World.setCell X3 ⟨w.heap.size, 4, none⟩ (.int .i64 (un + 1)) = X := ⟨_, rfl⟩
  rw [hX] at x0 xb x_r x_x x_i
  have HX := Lib.hid hX
  replace Kt := Lib.hid x0
  replace BB := Lib.hid xb
  replace Kr := Lib.hid x_r
  replace Kx := Lib.hid x_x
  replace Ki := Lib.hid x_i
  clear hX x0 xb x_r x_x x_i
  go_upto_region 11 with fail
  rw [HX.out]
  clear HX
  clear qt_0 qt_1 qt_2 qt_3 qt_4 qt_5 qt_6 qt_7 qt_8 qt_9 qt_10 lt ft_0 ft_1 ft_2 ft_3 ft_4 ft_5 ft_6 ft_7 ft_8 ft_9 ft_10 qi_0 qi_1 qi_2 li fi_0 fi_1 fi_2
  obtain ⟨qt_0, qt_1, qt_2, qt_3, qt_4, qt_5, qt_6, qt_7, qt_8, qt_9, qt_10⟩ := Kt.out.c11
  have lt := Kt.out.lt
  obtain ⟨qr_0, qr_1, qr_2, qr_3, qr_4, qr_5, qr_6, qr_7, qr_8, qr_9, qr_10⟩ := Kr.out.c11
  have lr := Kr.out.lt
  obtain ⟨fr_0, fr_1, fr_2, fr_3, fr_4, fr_5, fr_6, fr_7, fr_8, fr_9, fr_10⟩ := Kr.out.f11
  obtain ⟨qx_0, qx_1, qx_2⟩ := Kx.out.c3
  have lx := Kx.out.lt
  obtain ⟨fx_0, fx_1, fx_2⟩ := Kx.out.f3
  have B_r := Lib.hid (below_set11 (g := (w.heap.size + 1)) BB.out HBr.out (.int .i64 id) (.int .i64 tn) (.int .i64 pg) (.int .i64 k) (.int .i64 (un + 1)) (.int .i64 k0) (.int .i64 k1) (.int .i64 k2) (.int .i64 k3) (.int .i64 st) (.int .i64 (rn + 1)))
  have S_r := Lib.hid (bk_set11 Kr.out (.int .i64 id) (.int .i64 tn) (.int .i64 pg) (.int .i64 k) (.int .i64 (un + 1)) (.int .i64 k0) (.int .i64 k1) (.int .i64 k2) (.int .i64 k3) (.int .i64 st) (.int .i64 (rn + 1)))
  have F_x_r := Lib.hid (far_set11 Kx.out (Nr_x.out.symm) (.int .i64 id) (.int .i64 tn) (.int .i64 pg) (.int .i64 k) (.int .i64 (un + 1)) (.int .i64 k0) (.int .i64 k1) (.int .i64 k2) (.int .i64 k3) (.int .i64 st) (.int .i64 (rn + 1)))
  have B_x := Lib.hid (below_set3 (g := (w.heap.size + 1 + 1)) B_r.out HBx.out (.int .i64 0) (.int .i64 0) (.int .i64 0))
  have S_x := Lib.hid (bk_set3 F_x_r.out (.int .i64 0) (.int .i64 0) (.int .i64 0))
  have F_r_x := Lib.hid (far_set3 S_r.out (Nr_x.out) (.int .i64 0) (.int .i64 0) (.int .i64 0))
  unfold set11 set3 at B_x
  go_wp2
  obtain ⟨rr_0, rr_1, rr_2, rr_3, rr_4, rr_5, rr_6, rr_7, rr_8, rr_9, rr_10⟩ := Bk.c11 (F_r_x.out)
  obtain ⟨rx_0, rx_1, rx_2⟩ := Bk.c3 (S_x.out)
  unfold set11 set3 at rr_0 rr_1 rr_2 rr_3 rr_4 rr_5 rr_6 rr_7 rr_8 rr_9 rr_10 rx_0 rx_1 rx_2
  exact bodyPost_ret (v := .tuple #[.agg #[.int .i64 id, .int .i64 tn, .int .i64 pg, .int .i64 k, .int .i64 (un + 1), .int .i64 k0, .int .i64 k1, .int .i64 k2, .int .i64 k3, .int .i64 st, .int .i64 (rn + 1)], .agg #[.int .i64 0, .int .i64 0, .int .i64 0], .int .i64 0]) (by simp [results, Tryd.results38, go_sem, rr_0, rr_1, rr_2, rr_3, rr_4, rr_5, rr_6, rr_7, rr_8, rr_9, rr_10, rx_0, rx_1, rx_2]) rfl ⟨rfl, B_x.out⟩

set_option maxRecDepth 100000 in
set_option maxHeartbeats 4000000 in
theorem rdo_5 (t : Tk) (A : Option Addr) (n c : Nat) (p : List I3) (w : World) (hp : Prog w A n c p) (h : okF t p) (hs : t.st = 2) (hr : t.rn ≠ 1099511627776) (hm : (atI p t.pc).1 = 1) (hv : t.un + 1 = (atI p t.pc).2.1) : Calls Tryd.prog 38 #[.agg (tc t), .slice A n c] w (RetB (.tuple #[.agg (tc (doR t p).1), vI (doR t p).2.1, .int .i64 (doR t p).2.2]) w) := by
  have HP := Lib.hid hp
  have HN := Lib.hid hp.1
  have hn := Nat.le_trans hp.2.1.1 hp.2.1.2
  clear hp
  obtain ⟨k, hk, h1, h2, h3, h4, h5, h6, h7⟩ := h.num
  have hwk := fun q => h.work hk q
  rw [HN.out] at h1 h2 hwk
  have HC := Lib.hid (fun (W : World) (q : Below w.heap.size w W) => nextR_yes h ▸ rnext_any t A n c p W (HP.out.below q))
  rw [doR_yes h]
  have e : atI p t.pc = atN p k := by unfold atI; rw [hk, Int.toNat_natCast]
  rw [e] at HC
  rw [unitR_3 hs hr hm]
  try rw [e]
  try rw [e] at hm
  try rw [e] at hv
  clear h e
  generalize atN p k = x at *
  obtain ⟨xo, xa, xb⟩ := x
  obtain ⟨id, tn, pg, pc, un, k0, k1, k2, k3, st, rn⟩ := t
  unfold tc vI at HC
  unfold tc vI
  try unfold zT
  try unfold zI
  dsimp only at *
  subst hk
  have d1 : (st == 2) = true := by simpa using hs
  have d3 : (st != 2) = false := by simpa using hs
  have d4 : (rn == 1099511627776) = false := by simpa using hr
  have hrn : rn + 1 ≤ 1099511627776 := by omega
  obtain ⟨hu1, hu2⟩ := hwk hm
  have d2 : (xo == 1) = true := by simpa using hm
  unfold goW
  dsimp only
  have hne : un + 1 = xa := by omega
  rw [if_pos hne]
  dsimp only
  have d5 : ¬ un + 1 < xa := by omega
  have d6 : (k : Int) < n := by omega
  have hk1 : (k : Int) + 1 ≤ n := by omega
  clear hs hr hm hwk hne h7
  obtain ⟨kb0, kb1, kb2, hb0⟩ := lies3 w #[.int .i64 id, .int .i64 tn, .int .i64 pg, .int .i64 k, .int .i64 un, .int .i64 k0, .int .i64 k1, .int .i64 k2, .int .i64 k3, .int .i64 st, .int .i64 rn] #[.int .i64 0, .int .i64 0, .int .i64 0, .int .i64 0, .int .i64 0, .int .i64 0, .int .i64 0, .int .i64 0, .int .i64 0, .int .i64 0, .int .i64 0] #[.int .i64 0, .int .i64 0, .int .i64 0] 44 44 72
  obtain ⟨V, hV⟩ : ∃ V, ((w.alloc (.cells #[.int .i64 id, .int .i64 tn, .int .i64 pg, .int .i64 k, .int .i64 un, .int .i64 k0, .int .i64 k1, .int .i64 k2, .int .i64 k3, .int .i64 st, .int .i64 rn] 44)).alloc (.cells #[.int .i64 0, .int .i64 0, .int .i64 0, .int .i64 0, .int .i64 0, .int .i64 0, .int .i64 0, .int .i64 0, .int .i64 0, .int .i64 0, .int .i64 0] 44)).alloc (.cells #[.int .i64 0, .int .i64 0, .int .i64 0] 72) = V := ⟨_, rfl⟩
  rw [hV] at hb0 kb0 kb1 kb2
  have HV := Lib.hid hV
  have BB := Lib.hid hb0
  have Kt := Lib.hid kb0
  have HBt : Hid (w.heap.size ≤ w.heap.size) := Lib.hid (by omega)
  have Kr := Lib.hid kb1
  have HBr : Hid (w.heap.size ≤ (w.heap.size + 1)) := Lib.hid (by omega)
  have Nt_r : Hid (w.heap.size ≠ (w.heap.size + 1)) := Lib.hid (by omega)
  have Kx := Lib.hid kb2
  have HBx : Hid (w.heap.size ≤ (w.heap.size + 1 + 1)) := Lib.hid (by omega)
  have Nt_x : Hid (w.heap.size ≠ (w.heap.size + 1 + 1)) := Lib.hid (by omega)
  have Nr_x : Hid ((w.heap.size + 1) ≠ (w.heap.size + 1 + 1)) := Lib.hid (by omega)
  clear hV hb0 kb0 kb1 kb2
  go_enter Tryd.func38, Tryd.ntmps38
  go_upto_region 1 with fail
  rw [HV.out]
  clear HV
  obtain ⟨qt_0, qt_1, qt_2, qt_3, qt_4, qt_5, qt_6, qt_7, qt_8, qt_9, qt_10⟩ := Kt.out.c11
  have lt := Kt.out.lt
  go_wp2_with fail
  refine (HC.out _ BB.out).mono ?_
  rintro e U1 ⟨rfl, bU1⟩
  clear qt_0 qt_1 qt_2 qt_3 qt_4 qt_5 qt_6 qt_7 qt_8 qt_9 qt_10 lt
  replace BB := Lib.hid (below3 BB.out bU1)
  replace Kt := Lib.hid (Kt.out.below bU1 Kt.out.lt)
  replace Kr := Lib.hid (Kr.out.below bU1 Kr.out.lt)
  replace Kx := Lib.hid (Kx.out.below bU1 Kx.out.lt)
  clear bU1
  have kn := Bk.new U1 50 #[.int .i64 xo, .int .i64 xa, .int .i64 xb]
  have ba := (Below.refl U1.heap.size U1).alloc (Nat.le_refl _) (.cells #[.int .i64 xo, .int .i64 xa, .int .i64 xb] 50)
  have hgb := BB.out.size
  have nt_i := Nat.ne_of_lt Kt.out.lt
  have nr_i := Nat.ne_of_lt Kr.out.lt
  have nx_i := Nat.ne_of_lt Kx.out.lt
  replace BB := Lib.hid (below3 BB.out ba)
  replace Kt := Lib.hid (Kt.out.below ba Kt.out.lt)
  replace Kr := Lib.hid (Kr.out.below ba Kr.out.lt)
  replace Kx := Lib.hid (Kx.out.below ba Kx.out.lt)
  obtain ⟨gi, hg⟩ : ∃ g, U1.heap.size = g := ⟨_, rfl⟩
  obtain ⟨V2, hW⟩ : ∃ W, U1.alloc (.cells #[.int .i64 xo, .int .i64 xa, .int .i64 xb] 50) = W := ⟨_, rfl⟩
  have Ki := Lib.hid kn
  rw [hW] at BB Ki Kt Kr Kx
  rw [hg] at Ki hgb nt_i nr_i nx_i
  have HGi := Lib.hid hg
  have HWi := Lib.hid hW
  have HBi := Lib.hid hgb
  have Nt_i := Lib.hid nt_i
  have Nr_i := Lib.hid nr_i
  have Nx_i := Lib.hid nx_i
  clear hW hg kn ba hgb nt_i nr_i nx_i
  go_upto_region 2 with fail
  rw [HWi.out]
  try rw [HGi.out]
  clear HWi HGi
  obtain ⟨qt_0, qt_1, qt_2, qt_3, qt_4, qt_5, qt_6, qt_7, qt_8, qt_9, qt_10⟩ := Kt.out.c11
  have lt := Kt.out.lt
  obtain ⟨qi_0, qi_1, qi_2⟩ := Ki.out.c3
  have li := Ki.out.lt
  obtain ⟨ft_0, ft_1, ft_2, ft_3, ft_4, ft_5, ft_6, ft_7, ft_8, ft_9, ft_10⟩ := Kt.out.f11
  have x0 : Bk _ w.heap.size 44 #[.int .i64 id, .int .i64 tn, .int .i64 pg, .int .i64 k, .int .i64 un, .int .i64 k0, .int .i64 k1, .int .i64 k2, .int .i64 k3, .int .i64 st, .int .i64 (rn + 1)] := Kt.out.set_ 10 (.int .i64 (rn + 1))
  have x_r := Kr.out.far (p := ⟨w.heap.size, 10, none⟩) Nt_r.out.symm (.int .i64 (rn + 1))
  have x_x := Kx.out.far (p := ⟨w.heap.size, 10, none⟩) Nt_x.out.symm (.int .i64 (rn + 1))
  have x_i := Ki.out.far (p := ⟨w.heap.size, 10, none⟩) Nt_i.out.symm (.int .i64 (rn + 1))
  have xb := BB.out.setCell (p := ⟨w.heap.size, 10, none⟩) HBt.out (.int .i64 (rn + 1))
  obtain ⟨X3, hX⟩ : ∃ X, World.setCell V2 ⟨w.heap.size, 10, none⟩ (.int .i64 (rn + 1)) = X := ⟨_, rfl⟩
  rw [hX] at x0 xb x_r x_x x_i
  have HX := Lib.hid hX
  replace Kt := Lib.hid x0
  replace BB := Lib.hid xb
  replace Kr := Lib.hid x_r
  replace Kx := Lib.hid x_x
  replace Ki := Lib.hid x_i
  clear hX x0 xb x_r x_x x_i
  go_upto_region 9 with fail
  rw [HX.out]
  clear HX
  clear qt_0 qt_1 qt_2 qt_3 qt_4 qt_5 qt_6 qt_7 qt_8 qt_9 qt_10 lt qi_0 qi_1 qi_2 li ft_0 ft_1 ft_2 ft_3 ft_4 ft_5 ft_6 ft_7 ft_8 ft_9 ft_10
  obtain ⟨qt_0, qt_1, qt_2, qt_3, qt_4, qt_5, qt_6, qt_7, qt_8, qt_9, qt_10⟩ := Kt.out.c11
  have lt := Kt.out.lt
  obtain ⟨ft_0, ft_1, ft_2, ft_3, ft_4, ft_5, ft_6, ft_7, ft_8, ft_9, ft_10⟩ := Kt.out.f11
  obtain ⟨qi_0, qi_1, qi_2⟩ := Ki.out.c3
  have li := Ki.out.lt
  obtain ⟨fi_0, fi_1, fi_2⟩ := Ki.out.f3
  have x0 : Bk _ w.heap.size 44 #[.int .i64 id, .int .i64 tn, .int .i64 pg, .int .i64 k, .int .i64 0, .int .i64 k0, .int .i64 k1, .int .i64 k2, .int .i64 k3, .int .i64 st, .int .i64 (rn + 1)] := Kt.out.set_ 4 (.int .i64 0)
  have x_r := Kr.out.far (p := ⟨w.heap.size, 4, none⟩) Nt_r.out.symm (.int .i64 0)
  have x_x := Kx.out.far (p := ⟨w.heap.size, 4, none⟩) Nt_x.out.symm (.int .i64 0)
  have x_i := Ki.out.far (p := ⟨w.heap.size, 4, none⟩) Nt_i.out.symm (.int .i64 0)
  have xb := BB.out.setCell (p := ⟨w.heap.size, 4, none⟩) HBt.out (.int .i64 0)
  obtain ⟨X4, hX⟩ : ∃ X, World.setCell X3 ⟨w.heap.size, 4, none⟩ (.int .i64 0) = X := ⟨_, rfl⟩
  rw [hX] at x0 xb x_r x_x x_i
  have HX := Lib.hid hX
  replace Kt := Lib.hid x0
  replace BB := Lib.hid xb
  replace Kr := Lib.hid x_r
  replace Kx := Lib.hid x_x
  replace Ki := Lib.hid x_i
  clear hX x0 xb x_r x_x x_i
  go_upto_region 13 with fail
  rw [HX.out]
  clear HX
  clear qt_0 qt_1 qt_2 qt_3 qt_4 qt_5 qt_6 qt_7 qt_8 qt_9 qt_10 lt ft_0 ft_1 ft_2 ft_3 ft_4 ft_5 ft_6 ft_7 ft_8 ft_9 ft_10 qi_0 qi_1 qi_2 li fi_0 fi_1 fi_2
  obtain ⟨qt_0, qt_1, qt_2, qt_3, qt_4, qt_5, qt_6, qt_7, qt_8, qt_9, qt_10⟩ := Kt.out.c11
  have lt := Kt.out.lt
  obtain ⟨ft_0, ft_1, ft_2, ft_3, ft_4, ft_5, ft_6, ft_7, ft_8, ft_9, ft_10⟩ := Kt.out.f11
  have x0 : Bk _ w.heap.size 44 #[.int .i64 id, .int .i64 tn, .int .i64 pg, .int .i64 (k + 1), .int .i64 0, .int .i64 k0, .int .i64 k1, .int .i64 k2, .int .i64 k3, .int .i64 st, .int .i64 (rn + 1)] := Kt.out.set_ 3 (.int .i64 (k + 1))
  have x_r := Kr.out.far (p := ⟨w.heap.size, 3, none⟩) Nt_r.out.symm (.int .i64 (k + 1))
  have x_x := Kx.out.far (p := ⟨w.heap.size, 3, none⟩) Nt_x.out.symm (.int .i64 (k + 1))
  have x_i := Ki.out.far (p := ⟨w.heap.size, 3, none⟩) Nt_i.out.symm (.int .i64 (k + 1))
  have xb := BB.out.setCell (p := ⟨w.heap.size, 3, none⟩) HBt.out (.int .i64 (k + 1))
  obtain ⟨X5, hX⟩ : ∃ X, World.setCell X4 ⟨w.heap.size, 3, none⟩ (.int .i64 (k + 1)) = X := ⟨_, rfl⟩
  rw [hX] at x0 xb x_r x_x x_i
  have HX := Lib.hid hX
  replace Kt := Lib.hid x0
  replace BB := Lib.hid xb
  replace Kr := Lib.hid x_r
  replace Kx := Lib.hid x_x
  replace Ki := Lib.hid x_i
  clear hX x0 xb x_r x_x x_i
  go_upto_region 15 with fail
  rw [HX.out]
  clear HX
  clear qt_0 qt_1 qt_2 qt_3 qt_4 qt_5 qt_6 qt_7 qt_8 qt_9 qt_10 lt ft_0 ft_1 ft_2 ft_3 ft_4 ft_5 ft_6 ft_7 ft_8 ft_9 ft_10
  obtain ⟨qt_0, qt_1, qt_2, qt_3, qt_4, qt_5, qt_6, qt_7, qt_8, qt_9, qt_10⟩ := Kt.out.c11
  have lt := Kt.out.lt
  obtain ⟨qi_0, qi_1, qi_2⟩ := Ki.out.c3
  have li := Ki.out.lt
  obtain ⟨qr_0, qr_1, qr_2, qr_3, qr_4, qr_5, qr_6, qr_7, qr_8, qr_9, qr_10⟩ := Kr.out.c11
  have lr := Kr.out.lt
  obtain ⟨fr_0, fr_1, fr_2, fr_3, fr_4, fr_5, fr_6, fr_7, fr_8, fr_9, fr_10⟩ := Kr.out.f11
  obtain ⟨qx_0, qx_1, qx_2⟩ := Kx.out.c3
  have lx := Kx.out.lt
  obtain ⟨fx_0, fx_1, fx_2⟩ := Kx.out.f3
  have B_r := Lib.hid (below_set11 (g := (w.heap.size + 1)) BB.out HBr.out (.int .i64 id) (.int .i64 tn) (.int .i64 pg) (.int .i64 (k + 1)) (.int .i64 0) (.int .i64 k0) (.int .i64 k1) (.int .i64 k2) (.int .i64 k3) (.int .i64 st) (.int .i64 (rn + 1)))
  have S_r := Lib.hid (bk_set11 Kr.out (.int .i64 id) (.int .i64 tn) (.int .i64 pg) (.int .i64 (k + 1)) (.int .i64 0) (.int .i64 k0) (.int .i64 k1) (.int .i64 k2) (.int .i64 k3) (.int .i64 st) (.int .i64 (rn + 1)))
  have F_x_r := Lib.hid (far_set11 Kx.out (Nr_x.out.symm) (.int .i64 id) (.int .i64 tn) (.int .i64 pg) (.int .i64 (k + 1)) (.int .i64 0) (.int .i64 k0) (.int .i64 k1) (.int .i64 k2) (.int .i64 k3) (.int .i64 st) (.int .i64 (rn + 1)))
  have B_x := Lib.hid (below_set3 (g := (w.heap.size + 1 + 1)) B_r.out HBx.out (.int .i64 0) (.int .i64 0) (.int .i64 0))
  have S_x := Lib.hid (bk_set3 F_x_r.out (.int .i64 0) (.int .i64 0) (.int .i64 0))
  have F_r_x := Lib.hid (far_set3 S_r.out (Nr_x.out) (.int .i64 0) (.int .i64 0) (.int .i64 0))
  unfold set11 set3 at B_x
  go_wp2
  obtain ⟨rr_0, rr_1, rr_2, rr_3, rr_4, rr_5, rr_6, rr_7, rr_8, rr_9, rr_10⟩ := Bk.c11 (F_r_x.out)
  obtain ⟨rx_0, rx_1, rx_2⟩ := Bk.c3 (S_x.out)
  unfold set11 set3 at rr_0 rr_1 rr_2 rr_3 rr_4 rr_5 rr_6 rr_7 rr_8 rr_9 rr_10 rx_0 rx_1 rx_2
  exact bodyPost_ret (v := .tuple #[.agg #[.int .i64 id, .int .i64 tn, .int .i64 pg, .int .i64 (k + 1), .int .i64 0, .int .i64 k0, .int .i64 k1, .int .i64 k2, .int .i64 k3, .int .i64 st, .int .i64 (rn + 1)], .agg #[.int .i64 0, .int .i64 0, .int .i64 0], .int .i64 0]) (by simp [results, Tryd.results38, go_sem, rr_0, rr_1, rr_2, rr_3, rr_4, rr_5, rr_6, rr_7, rr_8, rr_9, rr_10, rx_0, rx_1, rx_2]) rfl ⟨rfl, B_x.out⟩

set_option maxRecDepth 100000 in
set_option maxHeartbeats 4000000 in
theorem rdo_6 (t : Tk) (A : Option Addr) (n c : Nat) (p : List I3) (w : World) (hp : Prog w A n c p) (h : okF t p) (hs : t.st = 2) (hr : t.rn ≠ 1099511627776) (hm : (atI p t.pc).1 ≠ 1) (hl : t.pc < n) : Calls Tryd.prog 38 #[.agg (tc t), .slice A n c] w (RetB (.tuple #[.agg (tc (doR t p).1), vI (doR t p).2.1, .int .i64 (doR t p).2.2]) w) := by
  have HP := Lib.hid hp
  have HN := Lib.hid hp.1
  have hn := Nat.le_trans hp.2.1.1 hp.2.1.2
  clear hp
  obtain ⟨k, hk, h1, h2, h3, h4, h5, h6, h7⟩ := h.num
  have hwk := fun q => h.work hk q
  rw [HN.out] at h1 h2 hwk
  have HC := Lib.hid (fun (W : World) (q : Below w.heap.size w W) => nextR_yes h ▸ rnext_any t A n c p W (HP.out.below q))
  rw [doR_yes h]
  have e : atI p t.pc = atN p k := by unfold atI; rw [hk, Int.toNat_natCast]
  rw [e] at HC
  rw [unitR_4 hs hr hm (by rw [HN.out]; exact hl)]
  try rw [e]
  try rw [e] at hm
  try rw [e] at hv
  clear h e
  generalize atN p k = x at *
  obtain ⟨xo, xa, xb⟩ := x
  obtain ⟨id, tn, pg, pc, un, k0, k1, k2, k3, st, rn⟩ := t
  unfold tc vI at HC
  unfold tc vI
  try unfold zT
  try unfold zI
  dsimp only at *
  subst hk
  have d2 : (xo == 1) = false := by simpa using hm
  obtain rfl : un = 0 := by omega
  have d1 : (st == 2) = true := by simpa using hs
  have d3 : (st != 2) = false := by simpa using hs
  have d4 : (rn == 1099511627776) = false := by simpa using hr
  have hrn : rn + 1 ≤ 1099511627776 := by omega
  have hk1 : (k : Int) + 1 ≤ n := by omega
  clear hs hr hm hwk h7
  obtain ⟨kb0, kb1, kb2, hb0⟩ := lies3 w #[.int .i64 id, .int .i64 tn, .int .i64 pg, .int .i64 k, .int .i64 0, .int .i64 k0, .int .i64 k1, .int .i64 k2, .int .i64 k3, .int .i64 st, .int .i64 rn] #[.int .i64 0, .int .i64 0, .int .i64 0, .int .i64 0, .int .i64 0, .int .i64 0, .int .i64 0, .int .i64 0, .int .i64 0, .int .i64 0, .int .i64 0] #[.int .i64 0, .int .i64 0, .int .i64 0] 44 44 72
  obtain ⟨V, hV⟩ : ∃ V, ((w.alloc (.cells #[.int .i64 id, .int .i64 tn, .int .i64 pg, .int .i64 k, .int .i64 0, .int .i64 k0, .int .i64 k1, .int .i64 k2, .int .i64 k3, .int .i64 st, .int .i64 rn] 44)).alloc (.cells #[.int .i64 0, .int .i64 0, .int .i64 0, .int .i64 0, .int .i64 0, .int .i64 0, .int .i64 0, .int .i64 0, .int .i64 0, .int .i64 0, .int .i64 0] 44)).alloc (.cells #[.int .i64 0, .int .i64 0, .int .i64 0] 72) = V := ⟨_, rfl⟩
  rw [hV] at hb0 kb0 kb1 kb2
  have HV := Lib.hid hV
  have BB := Lib.hid hb0
  have Kt := Lib.hid kb0
  have HBt : Hid (w.heap.size ≤ w.heap.size) := Lib.hid (by omega)
  have Kr := Lib.hid kb1
  have HBr : Hid (w.heap.size ≤ (w.heap.size + 1)) := Lib.hid (by omega)
  have Nt_r : Hid (w.heap.size ≠ (w.heap.size + 1)) := Lib.hid (by omega)
  have Kx := Lib.hid kb2
  have HBx : Hid (w.heap.size ≤ (w.heap.size + 1 + 1)) := Lib.hid (by omega)
  have Nt_x : Hid (w.heap.size ≠ (w.heap.size + 1 + 1)) := Lib.hid (by omega)
  have Nr_x : Hid ((w.heap.size + 1) ≠ (w.heap.size + 1 + 1)) := Lib.hid (by omega)
  clear hV hb0 kb0 kb1 kb2
  go_enter Tryd.func38, Tryd.ntmps38
  go_upto_region 1 with fail
  rw [HV.out]
  clear HV
  obtain ⟨qt_0, qt_1, qt_2, qt_3, qt_4, qt_5, qt_6, qt_7, qt_8, qt_9, qt_10⟩ := Kt.out.c11
  have lt := Kt.out.lt
  go_wp2_with fail
  refine (HC.out _ BB.out).mono ?_
  rintro e U1 ⟨rfl, bU1⟩
  clear qt_0 qt_1 qt_2 qt_3 qt_4 qt_5 qt_6 qt_7 qt_8 qt_9 qt_10 lt
  replace BB := Lib.hid (below3 BB.out bU1)
  replace Kt := Lib.hid (Kt.out.below bU1 Kt.out.lt)
  replace Kr := Lib.hid (Kr.out.below bU1 Kr.out.lt)
  replace Kx := Lib.hid (Kx.out.below bU1 Kx.out.lt)
  clear bU1
  have kn := Bk.new U1 50 #[.int .i64 xo, .int .i64 xa, .int .i64 xb]
  have ba := (Below.refl U1.heap.size U1).alloc (Nat.le_refl _) (.cells #[.int .i64 xo, .int .i64 xa, .int .i64 xb] 50)
  have hgb := BB.out.size
  have nt_i := Nat.ne_of_lt Kt.out.lt
  have nr_i := Nat.ne_of_lt Kr.out.lt
  have nx_i := Nat.ne_of_lt Kx.out.lt
  replace BB := Lib.hid (below3 BB.out ba)
  replace Kt := Lib.hid (Kt.out.below ba Kt.out.lt)
  replace Kr := Lib.hid (Kr.out.below ba Kr.out.lt)
  replace Kx := Lib.hid (Kx.out.below ba Kx.out.lt)
  obtain ⟨gi, hg⟩ : ∃ g, U1.heap.size = g := ⟨_, rfl⟩
  obtain ⟨V2, hW⟩ : ∃ W, U1.alloc (.cells #[.int .i64 xo, .int .i64 xa, .int .i64 xb] 50) = W := ⟨_, rfl⟩
  have Ki := Lib.hid kn
  rw [hW] at BB Ki Kt Kr Kx
  rw [hg] at Ki hgb nt_i nr_i nx_i
  have HGi := Lib.hid hg
  have HWi := Lib.hid hW
  have HBi := Lib.hid hgb
  have Nt_i := Lib.hid nt_i
  have Nr_i := Lib.hid nr_i
  have Nx_i := Lib.hid nx_i
  clear hW hg kn ba hgb nt_i nr_i nx_i
  go_upto_region 2 with fail
  rw [HWi.out]
  try rw [HGi.out]
  clear HWi HGi
  obtain ⟨qt_0, qt_1, qt_2, qt_3, qt_4, qt_5, qt_6, qt_7, qt_8, qt_9, qt_10⟩ := Kt.out.c11
  have lt := Kt.out.lt
  obtain ⟨qi_0, qi_1, qi_2⟩ := Ki.out.c3
  have li := Ki.out.lt
  obtain ⟨ft_0, ft_1, ft_2, ft_3, ft_4, ft_5, ft_6, ft_7, ft_8, ft_9, ft_10⟩ := Kt.out.f11
  have x0 : Bk _ w.heap.size 44 #[.int .i64 id, .int .i64 tn, .int .i64 pg, .int .i64 k, .int .i64 0, .int .i64 k0, .int .i64 k1, .int .i64 k2, .int .i64 k3, .int .i64 st, .int .i64 (rn + 1)] := Kt.out.set_ 10 (.int .i64 (rn + 1))
  have x_r := Kr.out.far (p := ⟨w.heap.size, 10, none⟩) Nt_r.out.symm (.int .i64 (rn + 1))
  have x_x := Kx.out.far (p := ⟨w.heap.size, 10, none⟩) Nt_x.out.symm (.int .i64 (rn + 1))
  have x_i := Ki.out.far (p := ⟨w.heap.size, 10, none⟩) Nt_i.out.symm (.int .i64 (rn + 1))
  have xb := BB.out.setCell (p := ⟨w.heap.size, 10, none⟩) HBt.out (.int .i64 (rn + 1))
  obtain ⟨X3, hX⟩ : ∃ X, World.setCell V2 ⟨w.heap.size, 10, none⟩ (.int .i64 (rn + 1)) = X := ⟨_, rfl⟩
  rw [hX] at x0 xb x_r x_x x_i
  have HX := Lib.hid hX
  replace Kt := Lib.hid x0
  replace BB := Lib.hid xb
  replace Kr := Lib.hid x_r
  replace Kx := Lib.hid x_x
  replace Ki := Lib.hid x_i
  clear hX x0 xb x_r x_x x_i
  go_upto_region 9 with fail
  rw [HX.out]
  clear HX
  clear qt_0 qt_1 qt_2 qt_3 qt_4 qt_5 qt_6 qt_7 qt_8 qt_9 qt_10 lt qi_0 qi_1 qi_2 li ft_0 ft_1 ft_2 ft_3 ft_4 ft_5 ft_6 ft_7 ft_8 ft_9 ft_10
  obtain ⟨qt_0, qt_1, qt_2, qt_3, qt_4, qt_5, qt_6, qt_7, qt_8, qt_9, qt_10⟩ := Kt.out.c11
  have lt := Kt.out.lt
  obtain ⟨ft_0, ft_1, ft_2, ft_3, ft_4, ft_5, ft_6, ft_7, ft_8, ft_9, ft_10⟩ := Kt.out.f11
  obtain ⟨qi_0, qi_1, qi_2⟩ := Ki.out.c3
  have li := Ki.out.lt
  obtain ⟨fi_0, fi_1, fi_2⟩ := Ki.out.f3
  have x0 : Bk _ w.heap.size 44 #[.int .i64 id, .int .i64 tn, .int .i64 pg, .int .i64 k, .int .i64 0, .int .i64 k0, .int .i64 k1, .int .i64 k2, .int .i64 k3, .int .i64 st, .int .i64 (rn + 1)] := Kt.out.set_ 4 (.int .i64 0)
  have x_r := Kr.out.far (p := ⟨w.heap.size, 4, none⟩) Nt_r.out.symm (.int .i64 0)
  have x_x := Kx.out.far (p := ⟨w.heap.size, 4, none⟩) Nt_x.out.symm (.int .i64 0)
  have x_i := Ki.out.far (p := ⟨w.heap.size, 4, none⟩) Nt_i.out.symm (.int .i64 0)
  have xb := BB.out.setCell (p := ⟨w.heap.size, 4, none⟩) HBt.out (.int .i64 0)
  obtain ⟨X4, hX⟩ : ∃ X, World.setCell X3 ⟨w.heap.size, 4, none⟩ (.int .i64 0) = X := ⟨_, rfl⟩
  rw [hX] at x0 xb x_r x_x x_i
  have HX := Lib.hid hX
  replace Kt := Lib.hid x0
  replace BB := Lib.hid xb
  replace Kr := Lib.hid x_r
  replace Kx := Lib.hid x_x
  replace Ki := Lib.hid x_i
  clear hX x0 xb x_r x_x x_i
  go_upto_region 13 with fail
  rw [HX.out]
  clear HX
  clear qt_0 qt_1 qt_2 qt_3 qt_4 qt_5 qt_6 qt_7 qt_8 qt_9 qt_10 lt ft_0 ft_1 ft_2 ft_3 ft_4 ft_5 ft_6 ft_7 ft_8 ft_9 ft_10 qi_0 qi_1 qi_2 li fi_0 fi_1 fi_2
  obtain ⟨qt_0, qt_1, qt_2, qt_3, qt_4, qt_5, qt_6, qt_7, qt_8, qt_9, qt_10⟩ := Kt.out.c11
  have lt := Kt.out.lt
  obtain ⟨ft_0, ft_1, ft_2, ft_3, ft_4, ft_5, ft_6, ft_7, ft_8, ft_9, ft_10⟩ := Kt.out.f11
  have x0 : Bk _ w.heap.size 44 #[.int .i64 id, .int .i64 tn, .int .i64 pg, .int .i64 (k + 1), .int .i64 0, .int .i64 k0, .int .i64 k1, .int .i64 k2, .int .i64 k3, .int .i64 st, .int .i64 (rn + 1)] := Kt.out.set_ 3 (.int .i64 (k + 1))
  have x_r := Kr.out.far (p := ⟨w.heap.size, 3, none⟩) Nt_r.out.symm (.int .i64 (k + 1))
  have x_x := Kx.out.far (p := ⟨w.heap.size, 3, none⟩) Nt_x.out.symm (.int .i64 (k + 1))
  have x_i := Ki.out.far (p := ⟨w.heap.size, 3, none⟩) Nt_i.out.symm (.int .i64 (k + 1))
  have xb := BB.out.setCell (p := ⟨w.heap.size, 3, none⟩) HBt.out (.int .i64 (k + 1))
  obtain ⟨X5, hX⟩ : ∃ X, World.setCell X4 ⟨w.heap.size, 3, none⟩ (.int .i64 (k + 1)) = X := ⟨_, rfl⟩
  rw [hX] at x0 xb x_r x_x x_i
  have HX := Lib.hid hX
  replace Kt := Lib.hid x0
  replace BB := Lib.hid xb
  replace Kr := Lib.hid x_r
  replace Kx := Lib.hid x_x
  replace Ki := Lib.hid x_i
  clear hX x0 xb x_r x_x x_i
  go_upto_region 15 with fail
  rw [HX.out]
  clear HX
  clear qt_0 qt_1 qt_2 qt_3 qt_4 qt_5 qt_6 qt_7 qt_8 qt_9 qt_10 lt ft_0 ft_1 ft_2 ft_3 ft_4 ft_5 ft_6 ft_7 ft_8 ft_9 ft_10
  obtain ⟨qt_0, qt_1, qt_2, qt_3, qt_4, qt_5, qt_6, qt_7, qt_8, qt_9, qt_10⟩ := Kt.out.c11
  have lt := Kt.out.lt
  obtain ⟨qi_0, qi_1, qi_2⟩ := Ki.out.c3
  have li := Ki.out.lt
  have pt_i := Nt_i.out
  have pr_i := Nr_i.out
  have px_i := Nx_i.out
  obtain ⟨qr_0, qr_1, qr_2, qr_3, qr_4, qr_5, qr_6, qr_7, qr_8, qr_9, qr_10⟩ := Kr.out.c11
  have lr := Kr.out.lt
  obtain ⟨fr_0, fr_1, fr_2, fr_3, fr_4, fr_5, fr_6, fr_7, fr_8, fr_9, fr_10⟩ := Kr.out.f11
  obtain ⟨qx_0, qx_1, qx_2⟩ := Kx.out.c3
  have lx := Kx.out.lt
  obtain ⟨fx_0, fx_1, fx_2⟩ := Kx.out.f3
  have B_r := Lib.hid (below_set11 (g := (w.heap.size + 1)) BB.out HBr.out (.int .i64 id) (.int .i64 tn) (.int .i64 pg) (.int .i64 (k + 1)) (.int .i64 0) (.int .i64 k0) (.int .i64 k1) (.int .i64 k2) (.int .i64 k3) (.int .i64 st) (.int .i64 (rn + 1)))
  have S_r := Lib.hid (bk_set11 Kr.out (.int .i64 id) (.int .i64 tn) (.int .i64 pg) (.int .i64 (k + 1)) (.int .i64 0) (.int .i64 k0) (.int .i64 k1) (.int .i64 k2) (.int .i64 k3) (.int .i64 st) (.int .i64 (rn + 1)))
  have F_x_r := Lib.hid (far_set11 Kx.out (Nr_x.out.symm) (.int .i64 id) (.int .i64 tn) (.int .i64 pg) (.int .i64 (k + 1)) (.int .i64 0) (.int .i64 k0) (.int .i64 k1) (.int .i64 k2) (.int .i64 k3) (.int .i64 st) (.int .i64 (rn + 1)))
  have B_x := Lib.hid (below_set3 (g := (w.heap.size + 1 + 1)) B_r.out HBx.out (.int .i64 xo) (.int .i64 xa) (.int .i64 xb))
  have S_x := Lib.hid (bk_set3 F_x_r.out (.int .i64 xo) (.int .i64 xa) (.int .i64 xb))
  have F_r_x := Lib.hid (far_set3 S_r.out (Nr_x.out) (.int .i64 xo) (.int .i64 xa) (.int .i64 xb))
  unfold set11 set3 at B_x
  go_upto_region 17 with fail
  go_region
  go_wp2
  obtain ⟨rr_0, rr_1, rr_2, rr_3, rr_4, rr_5, rr_6, rr_7, rr_8, rr_9, rr_10⟩ := Bk.c11 (F_r_x.out.drew)
  obtain ⟨rx_0, rx_1, rx_2⟩ := Bk.c3 (S_x.out.drew)
  unfold set11 set3 at rr_0 rr_1 rr_2 rr_3 rr_4 rr_5 rr_6 rr_7 rr_8 rr_9 rr_10 rx_0 rx_1 rx_2
  exact bodyPost_ret (v := .tuple #[.agg #[.int .i64 id, .int .i64 tn, .int .i64 pg, .int .i64 (k + 1), .int .i64 0, .int .i64 k0, .int .i64 k1, .int .i64 k2, .int .i64 k3, .int .i64 st, .int .i64 (rn + 1)], .agg #[.int .i64 xo, .int .i64 xa, .int .i64 xb], .int .i64 0]) (by simp [results, Tryd.results38, go_sem, rr_0, rr_1, rr_2, rr_3, rr_4, rr_5, rr_6, rr_7, rr_8, rr_9, rr_10, rx_0, rx_1, rx_2]) rfl ⟨rfl, B_x.out.drew⟩

set_option maxRecDepth 100000 in
set_option maxHeartbeats 4000000 in
theorem rdo_7 (t : Tk) (A : Option Addr) (n c : Nat) (p : List I3) (w : World) (hp : Prog w A n c p) (h : okF t p) (hs : t.st = 2) (hr : t.rn ≠ 1099511627776) (hm : (atI p t.pc).1 ≠ 1) (hl : ¬ t.pc < n) : Calls Tryd.prog 38 #[.agg (tc t), .slice A n c] w (RetB (.tuple #[.agg (tc (doR t p).1), vI (doR t p).2.1, .int .i64 (doR t p).2.2]) w) := by
  have HP := Lib.hid hp
  have HN := Lib.hid hp.1
  have hn := Nat.le_trans hp.2.1.1 hp.2.1.2
  clear hp
  obtain ⟨k, hk, h1, h2, h3, h4, h5, h6, h7⟩ := h.num
  have hwk := fun q => h.work hk q
  rw [HN.out] at h1 h2 hwk
  have HC := Lib.hid (fun (W : World) (q : Below w.heap.size w W) => nextR_yes h ▸ rnext_any t A n c p W (HP.out.below q))
  rw [doR_yes h]
  have e : atI p t.pc = atN p k := by unfold atI; rw [hk, Int.toNat_natCast]
  rw [e] at HC
  rw [unitR_5 hs hr hm (by rw [HN.out]; exact hl)]
  try rw [e]
  try rw [e] at hm
  try rw [e] at hv
  clear h e
  generalize atN p k = x at *
  obtain ⟨xo, xa, xb⟩ := x
  obtain ⟨id, tn, pg, pc, un, k0, k1, k2, k3, st, rn⟩ := t
  unfold tc vI at HC
  unfold tc vI
  try unfold zT
  try unfold zI
  dsimp only at *
  subst hk
  have d2 : (xo == 1) = false := by simpa using hm
  obtain rfl : un = 0 := by omega
  have d1 : (st == 2) = true := by simpa using hs
  have d3 : (st != 2) = false := by simpa using hs
  have d4 : (rn == 1099511627776) = false := by simpa using hr
  have hrn : rn + 1 ≤ 1099511627776 := by omega
  have hk1 : ¬ (k : Int) < n := hl
  have hk2 : decide (k < n) = false := decide_eq_false (by omega)
  clear hs hr hm hwk hl h7
  obtain ⟨kb0, kb1, kb2, hb0⟩ := lies3 w #[.int .i64 id, .int .i64 tn, .int .i64 pg, .int .i64 k, .int .i64 0, .int .i64 k0, .int .i64 k1, .int .i64 k2, .int .i64 k3, .int .i64 st, .int .i64 rn] #[.int .i64 0, .int .i64 0, .int .i64 0, .int .i64 0, .int .i64 0, .int .i64 0, .int .i64 0, .int .i64 0, .int .i64 0, .int .i64 0, .int .i64 0] #[.int .i64 0, .int .i64 0, .int .i64 0] 44 44 72
  obtain ⟨V, hV⟩ : ∃ V, ((w.alloc (.cells #[.int .i64 id, .int .i64 tn, .int .i64 pg, .int .i64 k, .int .i64 0, .int .i64 k0, .int .i64 k1, .int .i64 k2, .int .i64 k3, .int .i64 st, .int .i64 rn] 44)).alloc (.cells #[.int .i64 0, .int .i64 0, .int .i64 0, .int .i64 0, .int .i64 0, .int .i64 0, .int .i64 0, .int .i64 0, .int .i64 0, .int .i64 0, .int .i64 0] 44)).alloc (.cells #[.int .i64 0, .int .i64 0, .int .i64 0] 72) = V := ⟨_, rfl⟩
  rw [hV] at hb0 kb0 kb1 kb2
  have HV := Lib.hid hV
  have BB := Lib.hid hb0
  have Kt := Lib.hid kb0
  have HBt : Hid (w.heap.size ≤ w.heap.size) := Lib.hid (by omega)
  have Kr := Lib.hid kb1
  have HBr : Hid (w.heap.size ≤ (w.heap.size + 1)) := Lib.hid (by omega)
  have Nt_r : Hid (w.heap.size ≠ (w.heap.size + 1)) := Lib.hid (by omega)
  have Kx := Lib.hid kb2
  have HBx : Hid (w.heap.size ≤ (w.heap.size + 1 + 1)) := Lib.hid (by omega)
  have Nt_x : Hid (w.heap.size ≠ (w.heap.size + 1 + 1)) := Lib.hid (by omega)
  have Nr_x : Hid ((w.heap.size + 1) ≠ (w.heap.size + 1 + 1)) := Lib.hid (by omega)
  clear hV hb0 kb0 kb1 kb2
  go_enter Tryd.func38, Tryd.ntmps38
  go_upto_region 1 with fail
  rw [HV.out]
  clear HV
  obtain ⟨qt_0, qt_1, qt_2, qt_3, qt_4, qt_5, qt_6, qt_7, qt_8, qt_9, qt_10⟩ := Kt.out.c11
  have lt := Kt.out.lt
  go_wp2_with fail
  refine (HC.out _ BB.out).mono ?_
  rintro e U1 ⟨rfl, bU1⟩
  clear qt_0 qt_1 qt_2 qt_3 qt_4 qt_5 qt_6 qt_7 qt_8 qt_9 qt_10 lt
  replace BB := Lib.hid (below3 BB.out bU1)
  replace Kt := Lib.hid (Kt.out.below bU1 Kt.out.lt)
  replace Kr := Lib.hid (Kr.out.below bU1 Kr.out.lt)
  replace Kx := Lib.hid (Kx.out.below bU1 Kx.out.lt)
  clear bU1
  have kn := Bk.new U1 50 #[.int .i64 xo, .int .i64 xa, .int .i64 xb]
  have ba := (Below.refl U1.heap.size U1).alloc (Nat.le_refl _) (.cells #[.int .i64 xo, .int .i64 xa, .int .i64 xb] 50)
  have hgb := BB.out.size
  have nt_i := Nat.ne_of_lt Kt.out.lt
  have nr_i := Nat.ne_of_lt Kr.out.lt
  have nx_i := Nat.ne_of_lt Kx.out.lt
  replace BB := Lib.hid (below3 BB.out ba)
  replace Kt := Lib.hid (Kt.out.below ba Kt.out.lt)
  replace Kr := Lib.hid (Kr.out.below ba Kr.out.lt)
  replace Kx := Lib.hid (Kx.out.below ba Kx.out.lt)
  obtain ⟨gi, hg⟩ : ∃ g, U1.heap.size = g := ⟨_, rfl⟩
  obtain ⟨V2, hW⟩ : ∃ W, U1.alloc (.cells #[.int .i64 xo, .int .i64 xa, .int .i64 xb] 50) = W := ⟨_, rfl⟩
  have Ki := Lib.hid kn
  rw [hW] at BB Ki Kt Kr Kx
  rw [hg] at Ki hgb nt_i nr_i nx_i
  have HGi := Lib.hid hg
  have HWi := Lib.hid hW
  have HBi := Lib.hid hgb
  have Nt_i := Lib.hid nt_i
  have Nr_i := Lib.hid nr_i
  have Nx_i := Lib.hid nx_i
  clear hW hg kn ba hgb nt_i nr_i nx_i
  go_upto_region 2 with fail
  rw [HWi.out]
  try rw [HGi.out]
  clear HWi HGi
  obtain ⟨qt_0, qt_1, qt_2, qt_3, qt_4, qt_5, qt_6, qt_7, qt_8, qt_9, qt_10⟩ := Kt.out.c11
  have lt := Kt.out.lt
  obtain ⟨qi_0, qi_1, qi_2⟩ := Ki.out.c3
  have li := Ki.out.lt
  obtain ⟨ft_0, ft_1, ft_2, ft_3, ft_4, ft_5, ft_6, ft_7, ft_8, ft_9, ft_10⟩ := Kt.out.f11
  have x0 : Bk _ w.heap.size 44 #[.int .i64 id, .int .i64 tn, .int .i64 pg, .int .i64 k, .int .i64 0, .int .i64 k0, .int .i64 k1, .int .i64 k2, .int .i64 k3, .int .i64 st, .int .i64 (rn + 1)] := Kt.out.set_ 10 (.int .i64 (rn + 1))
  have x_r := Kr.out.far (p := ⟨w.heap.size, 10, none⟩) Nt_r.out.symm (.int .i64 (rn + 1))
  have x_x := Kx.out.far (p := ⟨w.heap.size, 10, none⟩) Nt_x.out.symm (.int .i64 (rn + 1))
  have x_i := Ki.out.far (p := ⟨w.heap.size, 10, none⟩) Nt_i.out.symm (.int .i64 (rn + 1))
  have xb := BB.out.setCell (p := ⟨w.heap.size, 10, none⟩) HBt.out (.int .i64 (rn + 1))
  obtain ⟨X3, hX⟩ : ∃ X, World.setCell V2 ⟨w.heap.size, 10, none⟩ (.int .i64 (rn + 1)) = X := ⟨_, rfl⟩
  rw [hX] at x0 xb x_r x_x x_i
  have HX := Lib.hid hX
  replace Kt := Lib.hid x0
  replace BB := Lib.hid xb
  replace Kr := Lib.hid x_r
  replace Kx := Lib.hid x_x
  replace Ki := Lib.hid x_i
  clear hX x0 xb x_r x_x x_i
  go_upto_region 9 with fail
  rw [HX.out]
  clear HX
  clear qt_0 qt_1 qt_2 qt_3 qt_4 qt_5 qt_6 qt_7 qt_8 qt_9 qt_10 lt qi_0 qi_1 qi_2 li ft_0 ft_1 ft_2 ft_3 ft_4 ft_5 ft_6 ft_7 ft_8 ft_9 ft_10
  obtain ⟨qt_0, qt_1, qt_2, qt_3, qt_4, qt_5, qt_6, qt_7, qt_8, qt_9, qt_10⟩ := Kt.out.c11
  have lt := Kt.out.lt
  obtain ⟨ft_0, ft_1, ft_2, ft_3, ft_4, ft_5, ft_6, ft_7, ft_8, ft_9, ft_10⟩ := Kt.out.f11
  obtain ⟨qi_0, qi_1, qi_2⟩ := Ki.out.c3
  have li := Ki.out.lt
  obtain ⟨fi_0, fi_1, fi_2⟩ := Ki.out.f3
  have x0 : Bk _ w.heap.size 44 #[.int .i64 id, .int .i64 tn, .int .i64 pg, .int .i64 k, .int .i64 0, .int .i64 k0, .int .i64 k1, .int .i64 k2, .int .i64 k3, .int .i64 st, .int .i64 (rn + 1)] := Kt.out.set_ 4 (.int .i64 0)
  have x_r := Kr.out.far (p := ⟨w.heap.size, 4, none⟩) Nt_r.out.symm (.int .i64 0)
  have x_x := Kx.out.far (p := ⟨w.heap.size, 4, none⟩) Nt_x.out.symm (.int .i64 0)
  have x_i := Ki.out.far (p := ⟨w.heap.size, 4, none⟩) Nt_i.out.symm (.int .i64 0)
  have xb := BB.out.setCell (p := ⟨w.heap.size, 4, none⟩) HBt.out (.int .i64 0)
  obtain ⟨X4, hX⟩ : ∃ X, World.setCell X3 ⟨w.heap.size, 4, none⟩ (.int .i64 0) = X := ⟨_, rfl⟩
  rw [hX] at x0 xb x_r x_x x_i
  have HX := Lib.hid hX
  replace Kt := Lib.hid x0
  replace BB := Lib.hid xb
  replace Kr := Lib.hid x_r
  replace Kx := Lib.hid x_x
  replace Ki := Lib.hid x_i
  clear hX x0 xb x_r x_x x_i
  go_upto_region 15 with fail
  rw [HX.out]
  clear HX
  clear qt_0 qt_1 qt_2 qt_3 qt_4 qt_5 qt_6 qt_7 qt_8 qt_9 qt_10 lt ft_0 ft_1 ft_2 ft_3 ft_4 ft_5 ft_6 ft_7 ft_8 ft_9 ft_10 qi_0 qi_1 qi_2 li fi_0 fi_1 fi_2
  obtain ⟨qt_0, qt_1, qt_2, qt_3, qt_4, qt_5, qt_6, qt_7, qt_8, qt_9, qt_10⟩ := Kt.out.c11
  have lt := Kt.out.lt
  obtain ⟨qi_0, qi_1, qi_2⟩ := Ki.out.c3
  have li := Ki.out.lt
  have pt_i := Nt_i.out
  have pr_i := Nr_i.out
  have px_i := Nx_i.out
  obtain ⟨qr_0, qr_1, qr_2, qr_3, qr_4, qr_5, qr_6, qr_7, qr_8, qr_9, qr_10⟩ := Kr.out.c11
  have lr := Kr.out.lt
  obtain ⟨fr_0, fr_1, fr_2, fr_3, fr_4, fr_5, fr_6, fr_7, fr_8, fr_9, fr_10⟩ := Kr.out.f11
  obtain ⟨qx_0, qx_1, qx_2⟩ := Kx.out.c3
  have lx := Kx.out.lt
  obtain ⟨fx_0, fx_1, fx_2⟩ := Kx.out.f3
  have B_r := Lib.hid (below_set11 (g := (w.heap.size + 1)) BB.out HBr.out (.int .i64 id) (.int .i64 tn) (.int .i64 pg) (.int .i64 k) (.int .i64 0) (.int .i64 k0) (.int .i64 k1) (.int .i64 k2) (.int .i64 k3) (.int .i64 st) (.int .i64 (rn + 1)))
  have S_r := Lib.hid (bk_set11 Kr.out (.int .i64 id) (.int .i64 tn) (.int .i64 pg) (.int .i64 k) (.int .i64 0) (.int .i64 k0) (.int .i64 k1) (.int .i64 k2) (.int .i64 k3) (.int .i64 st) (.int .i64 (rn + 1)))
  have F_x_r := Lib.hid (far_set11 Kx.out (Nr_x.out.symm) (.int .i64 id) (.int .i64 tn) (.int .i64 pg) (.int .i64 k) (.int .i64 0) (.int .i64 k0) (.int .i64 k1) (.int .i64 k2) (.int .i64 k3) (.int .i64 st) (.int .i64 (rn + 1)))
  have B_x := Lib.hid (below_set3 (g := (w.heap.size + 1 + 1)) B_r.out HBx.out (.int .i64 xo) (.int .i64 xa) (.int .i64 xb))
  have S_x := Lib.hid (bk_set3 F_x_r.out (.int .i64 xo) (.int .i64 xa) (.int .i64 xb))
  have F_r_x := Lib.hid (far_set3 S_r.out (Nr_x.out) (.int .i64 xo) (.int .i64 xa) (.int .i64 xb))
  unfold set11 set3 at B_x
  go_upto_region 17 with fail
  go_region
  go_wp2
  obtain ⟨rr_0, rr_1, rr_2, rr_3, rr_4, rr_5, rr_6, rr_7, rr_8, rr_9, rr_10⟩ := Bk.c11 (F_r_x.out.drew)
  obtain ⟨rx_0, rx_1, rx_2⟩ := Bk.c3 (S_x.out.drew)
  unfold set11 set3 at rr_0 rr_1 rr_2 rr_3 rr_4 rr_5 rr_6 rr_7 rr_8 rr_9 rr_10 rx_0 rx_1 rx_2
  exact bodyPost_ret (v := .tuple #[.agg #[.int .i64 id, .int .i64 tn, .int .i64 pg, .int .i64 k, .int .i64 0, .int .i64 k0, .int .i64 k1, .int .i64 k2, .int .i64 k3, .int .i64 st, .int .i64 (rn + 1)], .agg #[.int .i64 xo, .int .i64 xa, .int .i64 xb], .int .i64 0]) (by simp [results, Tryd.results38, go_sem, rr_0, rr_1, rr_2, rr_3, rr_4, rr_5, rr_6, rr_7, rr_8, rr_9, rr_10, rx_0, rx_1, rx_2]) rfl ⟨rfl, B_x.out.drew⟩

theorem rdo_any (t : Tk) (A : Option Addr) (n c : Nat) (p : List I3) (w : World) (hp : Prog w A n c p) : Calls Tryd.prog 38 #[.agg (tc t), .slice A n c] w (RetB (.tuple #[.agg (tc (doR t p).1), vI (doR t p).2.1, .int .i64 (doR t p).2.2]) w) := by
  by_cases h : okF t p
  · by_cases hs : t.st = 2
    · by_cases hr : t.rn = 1099511627776
      · exact rdo_3 t A n c p w hp h hs hr
      · by_cases hm : (atI p t.pc).1 = 1
        · by_cases hv : t.un + 1 = (atI p t.pc).2.1
          · exact rdo_5 t A n c p w hp h hs hr hm hv
          · exact rdo_4 t A n c p w hp h hs hr hm hv
        · by_cases hl : t.pc < n
          · exact rdo_6 t A n c p w hp h hs hr hm hl
          · exact rdo_7 t A n c p w hp h hs hr hm hl
    · exact rdo_2 t A n c p w hp h hs
  · exact rdo_1 t A n c p w hp h

end Go.Proofs.YtfhlligcbpnkkaaDoor

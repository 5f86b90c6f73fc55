import Derived.Test.YtfhlligcbpnkkaaDoorMg7
import Derived.BigRegion

/-
  Layer 13: a unit.
-/
namespace Go.Proofs.YtfhlligcbpnkkaaDoor
open Go.RowKit

set_option maxRecDepth 100000 in
set_option maxHeartbeats 4000000 in
theorem unit_1 (t : Tk) (A : Option Addr) (n c : Nat) (p : List I3) (w : World) (hp : Prog w A n c p) (hk : ∃ k : Nat, t.pc = k ∧ k ≤ p.length ∧ p.length ≤ 32 ∧ 0 ≤ t.un ∧ t.un < 100 ∧ 0 ≤ t.rn ∧ t.rn ≤ 1099511627776 ∧ (t.un = 0 ∨ ((atN p k).1 = 1 ∧ t.un < (atN p k).2.1))) (hs : t.st ≠ 2) : Calls Tryd.prog 66 #[.agg (tc t), .slice A n c] w (RetB (.tuple #[.agg (tc (unitR t p).1), vI (unitR t p).2.1, .int .i64 (unitR t p).2.2]) w) := by
  have HN := Lib.hid hp.1
  have HP := Lib.hid hp
  have hn := Nat.le_trans hp.2.1.1 hp.2.1.2
  obtain ⟨k, hk, h1, h2, h3, h4, h5, h6, -⟩ := hk
  rw [hp.1] at h1 h2
  clear hp
  obtain ⟨id, tn, pg, pc, un, k0, k1, k2, k3, st, rn⟩ := t
  dsimp only at hk h1 h2 h3 h4 h5 h6
  subst hk
  rw [unitR_1 hs]
  unfold tc vI zT zI
  dsimp only at hs ⊢
  have d1 : (st == 2) = false := by simpa using hs
  have d2 : (st != 2) = true := by simpa using hs
  obtain ⟨kb0, kb1, kb2, hb0⟩ := lies3 w #[.int .i64 id, .int .i64 tn, .int .i64 pg, .int .i64 k, .int .i64 un, .int .i64 k0, .int .i64 k1, .int .i64 k2, .int .i64 k3, .int .i64 st, .int .i64 rn] #[.int .i64 0, .int .i64 0, .int .i64 0, .int .i64 0, .int .i64 0, .int .i64 0, .int .i64 0, .int .i64 0, .int .i64 0, .int .i64 0, .int .i64 0] #[.int .i64 0, .int .i64 0, .int .i64 0] 44 44 72
  obtain ⟨V, hV⟩ : ∃ V, ((w.alloc (.cells #[.int .i64 id, .int .i64 tn, .int .i64 pg, .int .i64 k, .int .i64 un, .int .i64 k0, .int .i64 k1, .int .i64 k2, .int .i64 k3, .int .i64 st, .int .i64 rn] 44)).alloc (.cells #[.int .i64 0, .int .i64 0, .int .i64 0, .int .i64 0, .int .i64 0, .int .i64 0, .int .i64 0, .int .i64 0, .int .i64 0, .int .i64 0, .int .i64 0] 44)).alloc (.cells #[.int .i64 0, .int .i64 0, .int .i64 0] 72) = V := ⟨_, rfl⟩
  rw [hV] at hb0 kb0 kb1 kb2
  have HV := Lib.hid hV
  have BB := Lib.hid hb0
  have Kt := Lib.hid kb0
  have HBt : Hid (w.heap.size ≤ w.heap.size) := Lib.hid (by omega)
  have Kr := Lib.hid kb1
  have HBr : Hid (w.heap.size ≤ (w.heap.size + 1)) := Lib.hid (by omega)
  have Nt_r : Hid (w.heap.size ≠ (w.heap.size + 1)) := Lib.hid (by omega)
  have Kx := Lib.hid kb2
  have HBx : Hid (w.heap.size ≤ (w.heap.size + 1 + 1)) := Lib.hid (by omega)
  have Nt_x : Hid (w.heap.size ≠ (w.heap.size + 1 + 1)) := Lib.hid (by omega)
  have Nr_x : Hid ((w.heap.size + 1) ≠ (w.heap.size + 1 + 1)) := Lib.hid (by omega)
  clear hV hb0 kb0 kb1 kb2
  go_enter Tryd.func66, Tryd.ntmps66
  go_upto_region 1 with fail
  rw [HV.out]
  clear HV
  obtain ⟨qt_0, qt_1, qt_2, qt_3, qt_4, qt_5, qt_6, qt_7, qt_8, qt_9, qt_10⟩ := Kt.out.c11
  have lt := Kt.out.lt
  obtain ⟨qr_0, qr_1, qr_2, qr_3, qr_4, qr_5, qr_6, qr_7, qr_8, qr_9, qr_10⟩ := Kr.out.c11
  have lr := Kr.out.lt
  obtain ⟨fr_0, fr_1, fr_2, fr_3, fr_4, fr_5, fr_6, fr_7, fr_8, fr_9, fr_10⟩ := Kr.out.f11
  obtain ⟨qx_0, qx_1, qx_2⟩ := Kx.out.c3
  have lx := Kx.out.lt
  obtain ⟨fx_0, fx_1, fx_2⟩ := Kx.out.f3
  have B_r := Lib.hid (below_set11 (g := (w.heap.size + 1)) BB.out HBr.out (.int .i64 0) (.int .i64 0) (.int .i64 0) (.int .i64 0) (.int .i64 0) (.int .i64 0) (.int .i64 0) (.int .i64 0) (.int .i64 0) (.int .i64 0) (.int .i64 0))
  have S_r := Lib.hid (bk_set11 Kr.out (.int .i64 0) (.int .i64 0) (.int .i64 0) (.int .i64 0) (.int .i64 0) (.int .i64 0) (.int .i64 0) (.int .i64 0) (.int .i64 0) (.int .i64 0) (.int .i64 0))
  have F_x_r := Lib.hid (far_set11 Kx.out (Nr_x.out.symm) (.int .i64 0) (.int .i64 0) (.int .i64 0) (.int .i64 0) (.int .i64 0) (.int .i64 0) (.int .i64 0) (.int .i64 0) (.int .i64 0) (.int .i64 0) (.int .i64 0))
  have B_x := Lib.hid (below_set3 (g := (w.heap.size + 1 + 1)) B_r.out HBx.out (.int .i64 0) (.int .i64 0) (.int .i64 0))
  have S_x := Lib.hid (bk_set3 F_x_r.out (.int .i64 0) (.int .i64 0) (.int .i64 0))
  have F_r_x := Lib.hid (far_set3 S_r.out (Nr_x.out) (.int .i64 0) (.int .i64 0) (.int .i64 0))
  unfold set11 set3 at B_x
  go_wp2
  obtain ⟨rr_0, rr_1, rr_2, rr_3, rr_4, rr_5, rr_6, rr_7, rr_8, rr_9, rr_10⟩ := Bk.c11 (F_r_x.out)
  obtain ⟨rx_0, rx_1, rx_2⟩ := Bk.c3 (S_x.out)
  unfold set11 set3 at rr_0 rr_1 rr_2 rr_3 rr_4 rr_5 rr_6 rr_7 rr_8 rr_9 rr_10 rx_0 rx_1 rx_2
  exact bodyPost_ret (v := .tuple #[.agg #[.int .i64 0, .int .i64 0, .int .i64 0, .int .i64 0, .int .i64 0, .int .i64 0, .int .i64 0, .int .i64 0, .int .i64 0, .int .i64 0, .int .i64 0], .agg #[.int .i64 0, .int .i64 0, .int .i64 0], .int .i64 9]) (by simp [results, Tryd.results66, go_sem, rr_0, rr_1, rr_2, rr_3, rr_4, rr_5, rr_6, rr_7, rr_8, rr_9, rr_10, rx_0, rx_1, rx_2]) rfl ⟨rfl, B_x.out⟩

set_option maxRecDepth 100000 in
set_option maxHeartbeats 4000000 in
theorem unit_2 (t : Tk) (A : Option Addr) (n c : Nat) (p : List I3) (w : World) (hp : Prog w A n c p) (hk : ∃ k : Nat, t.pc = k ∧ k ≤ p.length ∧ p.length ≤ 32 ∧ 0 ≤ t.un ∧ t.un < 100 ∧ 0 ≤ t.rn ∧ t.rn ≤ 1099511627776 ∧ (t.un = 0 ∨ ((atN p k).1 = 1 ∧ t.un < (atN p k).2.1))) (hs : t.st = 2) (hr : t.rn = 1099511627776) : Calls Tryd.prog 66 #[.agg (tc t), .slice A n c] w (RetB (.tuple #[.agg (tc (unitR t p).1), vI (unitR t p).2.1, .int .i64 (unitR t p).2.2]) w) := by
  have HN := Lib.hid hp.1
  have HP := Lib.hid hp
  have hn := Nat.le_trans hp.2.1.1 hp.2.1.2
  obtain ⟨k, hk, h1, h2, h3, h4, h5, h6, -⟩ := hk
  rw [hp.1] at h1 h2
  clear hp
  obtain ⟨id, tn, pg, pc, un, k0, k1, k2, k3, st, rn⟩ := t
  dsimp only at hk h1 h2 h3 h4 h5 h6
  subst hk
  rw [unitR_2 hs hr]
  unfold tc vI zT zI
  dsimp only at hs ⊢
  dsimp only at hr
  have d1 : (st == 2) = true := by simpa using hs
  have d3 : (st != 2) = false := by simpa using hs
  have d2 : (rn == 1099511627776) = true := by simpa using hr
  clear hs hr
  obtain ⟨kb0, kb1, kb2, hb0⟩ := lies3 w #[.int .i64 id, .int .i64 tn, .int .i64 pg, .int .i64 k, .int .i64 un, .int .i64 k0, .int .i64 k1, .int .i64 k2, .int .i64 k3, .int .i64 st, .int .i64 rn] #[.int .i64 0, .int .i64 0, .int .i64 0, .int .i64 0, .int .i64 0, .int .i64 0, .int .i64 0, .int .i64 0, .int .i64 0, .int .i64 0, .int .i64 0] #[.int .i64 0, .int .i64 0, .int .i64 0] 44 44 72
  obtain ⟨V, hV⟩ : ∃ V, ((w.alloc (.cells #[.int .i64 id, .int .i64 tn, .int .i64 pg, .int .i64 k, .int .i64 un, .int .i64 k0, .int .i64 k1, .int .i64 k2, .int .i64 k3, .int .i64 st, .int .i64 rn] 44)).alloc (.cells #[.int .i64 0, .int .i64 0, .int .i64 0, .int .i64 0, .int .i64 0, .int .i64 0, .int .i64 0, .int .i64 0, .int .i64 0, .int .i64 0, .int .i64 0] 44)).alloc (.cells #[.int .i64 0, .int .i64 0, .int .i64 0] 72) = V := ⟨_, rfl⟩
  rw [hV] at hb0 kb0 kb1 kb2
  have HV := Lib.hid hV
  have BB := Lib.hid hb0
  have Kt := Lib.hid kb0
  have HBt : Hid (w.heap.size ≤ w.heap.size) := Lib.hid (by omega)
  have Kr := Lib.hid kb1
  have HBr : Hid (w.heap.size ≤ (w.heap.size + 1)) := Lib.hid (by omega)
  have Nt_r : Hid (w.heap.size ≠ (w.heap.size + 1)) := Lib.hid (by omega)
  have Kx := Lib.hid kb2
  have HBx : Hid (w.heap.size ≤ (w.heap.size + 1 + 1)) := Lib.hid (by omega)
  have Nt_x : Hid (w.heap.size ≠ (w.heap.size + 1 + 1)) := Lib.hid (by omega)
  have Nr_x : Hid ((w.heap.size + 1) ≠ (w.heap.size + 1 + 1)) := Lib.hid (by omega)
  clear hV hb0 kb0 kb1 kb2
  go_enter Tryd.func66, Tryd.ntmps66
  go_upto_region 1 with fail
  rw [HV.out]
  clear HV
  obtain ⟨qt_0, qt_1, qt_2, qt_3, qt_4, qt_5, qt_6, qt_7, qt_8, qt_9, qt_10⟩ := Kt.out.c11
  have lt := Kt.out.lt
  obtain ⟨qr_0, qr_1, qr_2, qr_3, qr_4, qr_5, qr_6, qr_7, qr_8, qr_9, qr_10⟩ := Kr.out.c11
  have lr := Kr.out.lt
  obtain ⟨fr_0, fr_1, fr_2, fr_3, fr_4, fr_5, fr_6, fr_7, fr_8, fr_9, fr_10⟩ := Kr.out.f11
  obtain ⟨qx_0, qx_1, qx_2⟩ := Kx.out.c3
  have lx := Kx.out.lt
  obtain ⟨fx_0, fx_1, fx_2⟩ := Kx.out.f3
  have B_r := Lib.hid (below_set11 (g := (w.heap.size + 1)) BB.out HBr.out (.int .i64 0) (.int .i64 0) (.int .i64 0) (.int .i64 0) (.int .i64 0) (.int .i64 0) (.int .i64 0) (.int .i64 0) (.int .i64 0) (.int .i64 0) (.int .i64 0))
  have S_r := Lib.hid (bk_set11 Kr.out (.int .i64 0) (.int .i64 0) (.int .i64 0) (.int .i64 0) (.int .i64 0) (.int .i64 0) (.int .i64 0) (.int .i64 0) (.int .i64 0) (.int .i64 0) (.int .i64 0))
  have F_x_r := Lib.hid (far_set11 Kx.out (Nr_x.out.symm) (.int .i64 0) (.int .i64 0) (.int .i64 0) (.int .i64 0) (.int .i64 0) (.int .i64 0) (.int .i64 0) (.int .i64 0) (.int .i64 0) (.int .i64 0) (.int .i64 0))
  have B_x := Lib.hid (below_set3 (g := (w.heap.size + 1 + 1)) B_r.out HBx.out (.int .i64 0) (.int .i64 0) (.int .i64 0))
  have S_x := Lib.hid (bk_set3 F_x_r.out (.int .i64 0) (.int .i64 0) (.int .i64 0))
  have F_r_x := Lib.hid (far_set3 S_r.out (Nr_x.out) (.int .i64 0) (.int .i64 0) (.int .i64 0))
  unfold set11 set3 at B_x
  go_wp2
  obtain ⟨rr_0, rr_1, rr_2, rr_3, rr_4, rr_5, rr_6, rr_7, rr_8, rr_9, rr_10⟩ := Bk.c11 (F_r_x.out)
  obtain ⟨rx_0, rx_1, rx_2⟩ := Bk.c3 (S_x.out)
  unfold set11 set3 at rr_0 rr_1 rr_2 rr_3 rr_4 rr_5 rr_6 rr_7 rr_8 rr_9 rr_10 rx_0 rx_1 rx_2
  exact bodyPost_ret (v := .tuple #[.agg #[.int .i64 0, .int .i64 0, .int .i64 0, .int .i64 0, .int .i64 0, .int .i64 0, .int .i64 0, .int .i64 0, .int .i64 0, .int .i64 0, .int .i64 0], .agg #[.int .i64 0, .int .i64 0, .int .i64 0], .int .i64 4]) (by simp [results, Tryd.results66, go_sem, rr_0, rr_1, rr_2, rr_3, rr_4, rr_5, rr_6, rr_7, rr_8, rr_9, rr_10, rx_0, rx_1, rx_2]) rfl ⟨rfl, B_x.out⟩

set_option maxRecDepth 100000 in
set_option maxHeartbeats 4000000 in
theorem unit_3 (t : Tk) (A : Option Addr) (n c : Nat) (p : List I3) (w : World) (hp : Prog w A n c p) (hk : ∃ k : Nat, t.pc = k ∧ k ≤ p.length ∧ p.length ≤ 32 ∧ 0 ≤ t.un ∧ t.un < 100 ∧ 0 ≤ t.rn ∧ t.rn ≤ 1099511627776 ∧ (t.un = 0 ∨ ((atN p k).1 = 1 ∧ t.un < (atN p k).2.1))) (hs : t.st = 2) (hr : t.rn ≠ 1099511627776) (hm : (atI p t.pc).1 = 1) : Calls Tryd.prog 66 #[.agg (tc t), .slice A n c] w (RetB (.tuple #[.agg (tc (unitR t p).1), vI (unitR t p).2.1, .int .i64 (unitR t p).2.2]) w) := by
  have HN := Lib.hid hp.1
  have HP := Lib.hid hp
  have hn := Nat.le_trans hp.2.1.1 hp.2.1.2
  obtain ⟨k, hk, h1, h2, h3, h4, h5, h6, -⟩ := hk
  rw [hp.1] at h1 h2
  clear hp
  obtain ⟨id, tn, pg, pc, un, k0, k1, k2, k3, st, rn⟩ := t
  dsimp only at hk h1 h2 h3 h4 h5 h6
  subst hk
  rw [unitR_3 hs hr hm]
  have e : atI p (k : Int) = atN p k := by unfold atI; rw [Int.toNat_natCast]
  dsimp only at hs hr hm ⊢
  rw [e] at hm ⊢
  have HA := Lib.hid (fun (W : World) (h : Below w.heap.size w W) => at_any A n c p W (HP.out.below h) k h1)
  generalize atN p k = x at hm HA ⊢
  obtain ⟨xo, xa, xb⟩ := x
  unfold tc vI
  try unfold zI
  unfold vI at HA
  dsimp only at hm HA ⊢
  have d0 : (st == 2) = true := by simpa using hs
  have d1 : (rn == 1099511627776) = false := by simpa using hr
  have hrn : rn + 1 ≤ 1099511627776 := by omega
  clear hs
  have d2 : (xo == 1) = true := by simpa using hm
  clear hm hr
  obtain ⟨⟨y0, y1, y2, y3, y4, y5, y6, y7, y8, y9, y10⟩, hy⟩ : ∃ y, goW ⟨id, tn, pg, (k : Int), un, k0, k1, k2, k3, st, rn + 1⟩ xa = y := ⟨_, rfl⟩
  have HW := Lib.hid (fun (W : World) => hy ▸ work_any ⟨id, tn, pg, (k : Int), un, k0, k1, k2, k3, st, rn + 1⟩ xa W h3 h4 (by show 0 ≤ (k : Int); omega) (by show (k : Int) < 33; omega))
  rw [hy]
  unfold tc at HW
  dsimp only at HW ⊢
  clear hy
  obtain ⟨kb0, kb1, kb2, hb0⟩ := lies3 w #[.int .i64 id, .int .i64 tn, .int .i64 pg, .int .i64 k, .int .i64 un, .int .i64 k0, .int .i64 k1, .int .i64 k2, .int .i64 k3, .int .i64 st, .int .i64 rn] #[.int .i64 0, .int .i64 0, .int .i64 0, .int .i64 0, .int .i64 0, .int .i64 0, .int .i64 0, .int .i64 0, .int .i64 0, .int .i64 0, .int .i64 0] #[.int .i64 0, .int .i64 0, .int .i64 0] 44 44 72
  obtain ⟨V, hV⟩ : ∃ V, ((w.alloc (.cells #[.int .i64 id, .int .i64 tn, .int .i64 pg, .int .i64 k, .int .i64 un, .int .i64 k0, .int .i64 k1, .int .i64 k2, .int .i64 k3, .int .i64 st, .int .i64 rn] 44)).alloc (.cells #[.int .i64 0, .int .i64 0, .int .i64 0, .int .i64 0, .int .i64 0, .int .i64 0, .int .i64 0, .int .i64 0, .int .i64 0, .int .i64 0, .int .i64 0] 44)).alloc (.cells #[.int .i64 0, .int .i64 0, .int .i64 0] 72) = V := ⟨_, rfl⟩
  rw [hV] at hb0 kb0 kb1 kb2
  have HV := Lib.hid hV
  have BB := Lib.hid hb0
  have Kt := Lib.hid kb0
  have HBt : Hid (w.heap.size ≤ w.heap.size) := Lib.hid (by omega)
  have Kr := Lib.hid kb1
  have HBr : Hid (w.heap.size ≤ (w.heap.size + 1)) := Lib.hid (by omega)
  have Nt_r : Hid (w.heap.size ≠ (w.heap.size + 1)) := Lib.hid (by omega)
  have Kx := Lib.hid kb2
  have HBx : Hid (w.heap.size ≤ (w.heap.size + 1 + 1)) := Lib.hid (by omega)
  have Nt_x : Hid (w.heap.size ≠ (w.heap.size + 1 + 1)) := Lib.hid (by omega)
  have Nr_x : Hid ((w.heap.size + 1) ≠ (w.heap.size + 1 + 1)) := Lib.hid (by omega)
  clear hV hb0 kb0 kb1 kb2
  go_enter Tryd.func66, Tryd.ntmps66
  go_upto_region 1 with fail
  rw [HV.out]
  clear HV
  obtain ⟨qt_0, qt_1, qt_2, qt_3, qt_4, qt_5, qt_6, qt_7, qt_8, qt_9, qt_10⟩ := Kt.out.c11
  have lt := Kt.out.lt
  obtain ⟨ft_0, ft_1, ft_2, ft_3, ft_4, ft_5, ft_6, ft_7, ft_8, ft_9, ft_10⟩ := Kt.out.f11
  have x0 : Bk _ w.heap.size 44 #[.int .i64 id, .int .i64 tn, .int .i64 pg, .int .i64 k, .int .i64 un, .int .i64 k0, .int .i64 k1, .int .i64 k2, .int .i64 k3, .int .i64 st, .int .i64 (rn + 1)] := Kt.out.set_ 10 (.int .i64 (rn + 1))
  have x_r := Kr.out.far (p := ⟨w.heap.size, 10, none⟩) Nt_r.out.symm (.int .i64 (rn + 1))
  have x_x := Kx.out.far (p := ⟨w.heap.size, 10, none⟩) Nt_x.out.symm (.int .i64 (rn + 1))
  have xb := BB.out.setCell (p := ⟨w.heap.size, 10, none⟩) HBt.out (.int .i64 (rn + 1))
  obtain ⟨X1, hX⟩ : ∃ X, World.setCell V ⟨w.heap.size, 10, none⟩ (.int .i64 (rn + 1)) = X := ⟨_, rfl⟩
  rw [hX] at x0 xb x_r x_x
  have HX := Lib.hid hX
  replace Kt := Lib.hid x0
  replace BB := Lib.hid xb
  replace Kr := Lib.hid x_r
  replace Kx := Lib.hid x_x
  clear hX x0 xb x_r x_x
  go_upto_region 6 with fail
  rw [HX.out]
  clear HX
  clear qt_0 qt_1 qt_2 qt_3 qt_4 qt_5 qt_6 qt_7 qt_8 qt_9 qt_10 lt ft_0 ft_1 ft_2 ft_3 ft_4 ft_5 ft_6 ft_7 ft_8 ft_9 ft_10
  obtain ⟨qt_0, qt_1, qt_2, qt_3, qt_4, qt_5, qt_6, qt_7, qt_8, qt_9, qt_10⟩ := Kt.out.c11
  have lt := Kt.out.lt
  go_wp2_with fail
  refine (HA.out _ BB.out).mono ?_
  rintro e U2 ⟨rfl, bU2⟩
  clear qt_0 qt_1 qt_2 qt_3 qt_4 qt_5 qt_6 qt_7 qt_8 qt_9 qt_10 lt
  replace BB := Lib.hid (below3 BB.out bU2)
  replace Kt := Lib.hid (Kt.out.below bU2 Kt.out.lt)
  replace Kr := Lib.hid (Kr.out.below bU2 Kr.out.lt)
  replace Kx := Lib.hid (Kx.out.below bU2 Kx.out.lt)
  clear bU2
  have kn := Bk.new U2 50 #[.int .i64 xo, .int .i64 xa, .int .i64 xb]
  have ba := (Below.refl U2.heap.size U2).alloc (Nat.le_refl _) (.cells #[.int .i64 xo, .int .i64 xa, .int .i64 xb] 50)
  have hgb := BB.out.size
  have nt_i := Nat.ne_of_lt Kt.out.lt
  have nr_i := Nat.ne_of_lt Kr.out.lt
  have nx_i := Nat.ne_of_lt Kx.out.lt
  replace BB := Lib.hid (below3 BB.out ba)
  replace Kt := Lib.hid (Kt.out.below ba Kt.out.lt)
  replace Kr := Lib.hid (Kr.out.below ba Kr.out.lt)
  replace Kx := Lib.hid (Kx.out.below ba Kx.out.lt)
  obtain ⟨gi, hg⟩ : ∃ g, U2.heap.size = g := ⟨_, rfl⟩
  obtain ⟨V3, hW⟩ : ∃ W, U2.alloc (.cells #[.int .i64 xo, .int .i64 xa, .int .i64 xb] 50) = W := ⟨_, rfl⟩
  have Ki := Lib.hid kn
  rw [hW] at BB Ki Kt Kr Kx
  rw [hg] at Ki hgb nt_i nr_i nx_i
  have HGi := Lib.hid hg
  have HWi := Lib.hid hW
  have HBi := Lib.hid hgb
  have Nt_i := Lib.hid nt_i
  have Nr_i := Lib.hid nr_i
  have Nx_i := Lib.hid nx_i
  clear hW hg kn ba hgb nt_i nr_i nx_i
  go_upto_region 7 with fail
  rw [HWi.out]
  try rw [HGi.out]
  clear HWi HGi
  obtain ⟨qt_0, qt_1, qt_2, qt_3, qt_4, qt_5, qt_6, qt_7, qt_8, qt_9, qt_10⟩ := Kt.out.c11
  have lt := Kt.out.lt
  obtain ⟨qi_0, qi_1, qi_2⟩ := Ki.out.c3
  have li := Ki.out.lt
  go_wp2_with fail
  refine (HW.out _).mono ?_
  rintro e U4 ⟨rfl, bU4⟩
  clear qt_0 qt_1 qt_2 qt_3 qt_4 qt_5 qt_6 qt_7 qt_8 qt_9 qt_10 lt qi_0 qi_1 qi_2 li
  replace BB := Lib.hid (below3 BB.out bU4)
  replace Kt := Lib.hid (Kt.out.below bU4 Kt.out.lt)
  replace Kr := Lib.hid (Kr.out.below bU4 Kr.out.lt)
  replace Kx := Lib.hid (Kx.out.below bU4 Kx.out.lt)
  replace Ki := Lib.hid (Ki.out.below bU4 Ki.out.lt)
  clear bU4
  obtain ⟨qr_0, qr_1, qr_2, qr_3, qr_4, qr_5, qr_6, qr_7, qr_8, qr_9, qr_10⟩ := Kr.out.c11
  have lr := Kr.out.lt
  obtain ⟨fr_0, fr_1, fr_2, fr_3, fr_4, fr_5, fr_6, fr_7, fr_8, fr_9, fr_10⟩ := Kr.out.f11
  obtain ⟨qx_0, qx_1, qx_2⟩ := Kx.out.c3
  have lx := Kx.out.lt
  obtain ⟨fx_0, fx_1, fx_2⟩ := Kx.out.f3
  have B_r := Lib.hid (below_set11 (g := (w.heap.size + 1)) BB.out HBr.out (.int .i64 y0) (.int .i64 y1) (.int .i64 y2) (.int .i64 y3) (.int .i64 y4) (.int .i64 y5) (.int .i64 y6) (.int .i64 y7) (.int .i64 y8) (.int .i64 y9) (.int .i64 y10))
  have S_r := Lib.hid (bk_set11 Kr.out (.int .i64 y0) (.int .i64 y1) (.int .i64 y2) (.int .i64 y3) (.int .i64 y4) (.int .i64 y5) (.int .i64 y6) (.int .i64 y7) (.int .i64 y8) (.int .i64 y9) (.int .i64 y10))
  have F_x_r := Lib.hid (far_set11 Kx.out (Nr_x.out.symm) (.int .i64 y0) (.int .i64 y1) (.int .i64 y2) (.int .i64 y3) (.int .i64 y4) (.int .i64 y5) (.int .i64 y6) (.int .i64 y7) (.int .i64 y8) (.int .i64 y9) (.int .i64 y10))
  have B_x := Lib.hid (below_set3 (g := (w.heap.size + 1 + 1)) B_r.out HBx.out (.int .i64 0) (.int .i64 0) (.int .i64 0))
  have S_x := Lib.hid (bk_set3 F_x_r.out (.int .i64 0) (.int .i64 0) (.int .i64 0))
  have F_r_x := Lib.hid (far_set3 S_r.out (Nr_x.out) (.int .i64 0) (.int .i64 0) (.int .i64 0))
  unfold set11 set3 at B_x
  go_wp2
  obtain ⟨rr_0, rr_1, rr_2, rr_3, rr_4, rr_5, rr_6, rr_7, rr_8, rr_9, rr_10⟩ := Bk.c11 (F_r_x.out)
  obtain ⟨rx_0, rx_1, rx_2⟩ := Bk.c3 (S_x.out)
  unfold set11 set3 at rr_0 rr_1 rr_2 rr_3 rr_4 rr_5 rr_6 rr_7 rr_8 rr_9 rr_10 rx_0 rx_1 rx_2
  exact bodyPost_ret (v := .tuple #[.agg #[.int .i64 y0, .int .i64 y1, .int .i64 y2, .int .i64 y3, .int .i64 y4, .int .i64 y5, .int .i64 y6, .int .i64 y7, .int .i64 y8, .int .i64 y9, .int .i64 y10], .agg #[.int .i64 0, .int .i64 0, .int .i64 0], .int .i64 0]) (by simp [results, Tryd.results66, go_sem, rr_0, rr_1, rr_2, rr_3, rr_4, rr_5, rr_6, rr_7, rr_8, rr_9, rr_10, rx_0, rx_1, rx_2]) rfl ⟨rfl, B_x.out⟩

set_option maxRecDepth 100000 in
set_option maxHeartbeats 4000000 in
theorem unit_4 (t : Tk) (A : Option Addr) (n c : Nat) (p : List I3) (w : World) (hp : Prog w A n c p) (hk : ∃ k : Nat, t.pc = k ∧ k ≤ p.length ∧ p.length ≤ 32 ∧ 0 ≤ t.un ∧ t.un < 100 ∧ 0 ≤ t.rn ∧ t.rn ≤ 1099511627776 ∧ (t.un = 0 ∨ ((atN p k).1 = 1 ∧ t.un < (atN p k).2.1))) (hs : t.st = 2) (hr : t.rn ≠ 1099511627776) (hm : (atI p t.pc).1 ≠ 1) (hl : t.pc < n) : Calls Tryd.prog 66 #[.agg (tc t), .slice A n c] w (RetB (.tuple #[.agg (tc (unitR t p).1), vI (unitR t p).2.1, .int .i64 (unitR t p).2.2]) w) := by
  have HN := Lib.hid hp.1
  have HP := Lib.hid hp
  have hn := Nat.le_trans hp.2.1.1 hp.2.1.2
  obtain ⟨k, hk, h1, h2, h3, h4, h5, h6, -⟩ := hk
  rw [hp.1] at h1 h2
  clear hp
  obtain ⟨id, tn, pg, pc, un, k0, k1, k2, k3, st, rn⟩ := t
  dsimp only at hk h1 h2 h3 h4 h5 h6
  subst hk
  rw [unitR_4 hs hr hm (by rw [HN.out]; exact hl)]
  have e : atI p (k : Int) = atN p k := by unfold atI; rw [Int.toNat_natCast]
  dsimp only at hs hr hm ⊢
  rw [e] at hm ⊢
  have HA := Lib.hid (fun (W : World) (h : Below w.heap.size w W) => at_any A n c p W (HP.out.below h) k h1)
  generalize atN p k = x at hm HA ⊢
  obtain ⟨xo, xa, xb⟩ := x
  unfold tc vI
  try unfold zI
  unfold vI at HA
  dsimp only at hm HA ⊢
  have d0 : (st == 2) = true := by simpa using hs
  have d1 : (rn == 1099511627776) = false := by simpa using hr
  have hrn : rn + 1 ≤ 1099511627776 := by omega
  clear hs
  have d2 : (xo == 1) = false := by simpa using hm
  clear hm hr
  have hkn : ((k : Int) + 1) ≤ n := by dsimp only at hl; omega
  have HM : Hid (min ((k : Int) + 1) (n : Int) = (k : Int) + 1) := Lib.hid (by omega)
  clear hl
  obtain ⟨kb0, kb1, kb2, hb0⟩ := lies3 w #[.int .i64 id, .int .i64 tn, .int .i64 pg, .int .i64 k, .int .i64 un, .int .i64 k0, .int .i64 k1, .int .i64 k2, .int .i64 k3, .int .i64 st, .int .i64 rn] #[.int .i64 0, .int .i64 0, .int .i64 0, .int .i64 0, .int .i64 0, .int .i64 0, .int .i64 0, .int .i64 0, .int .i64 0, .int .i64 0, .int .i64 0] #[.int .i64 0, .int .i64 0, .int .i64 0] 44 44 72
  obtain ⟨V, hV⟩ : ∃ V, ((w.alloc (.cells #[.int .i64 id, .int .i64 tn, .int .i64 pg, .int .i64 k, .int .i64 un, .int .i64 k0, .int .i64 k1, .int .i64 k2, .int .i64 k3, .int .i64 st, .int .i64 rn] 44)).alloc (.cells #[.int .i64 0, .int .i64 0, .int .i64 0, .int .i64 0, .int .i64 0, .int .i64 0, .int .i64 0, .int .i64 0, .int .i64 0, .int .i64 0, .int .i64 0] 44)).alloc (.cells #[.int .i64 0, .int .i64 0, .int .i64 0] 72) = V := ⟨_, rfl⟩
  rw [hV] at hb0 kb0 kb1 kb2
  have HV := Lib.hid hV
  have BB := Lib.hid hb0
  have Kt := Lib.hid kb0
  have HBt : Hid (w.heap.size ≤ w.heap.size) := Lib.hid (by omega)
  have Kr := Lib.hid kb1
  have HBr : Hid (w.heap.size ≤ (w.heap.size + 1)) := Lib.hid (by omega)
  have Nt_r : Hid (w.heap.size ≠ (w.heap.size + 1)) := Lib.hid (by omega)
  have Kx := Lib.hid kb2
  have HBx : Hid (w.heap.size ≤ (w.heap.size + 1 + 1)) := Lib.hid (by omega)
  have Nt_x : Hid (w.heap.size ≠ (w.heap.size + 1 + 1)) := Lib.hid (by omega)
  have Nr_x : Hid ((w.heap.size + 1) ≠ (w.heap.size + 1 + 1)) := Lib.hid (by omega)
  clear hV hb0 kb0 kb1 kb2
  go_enter Tryd.func66, Tryd.ntmps66
  go_upto_region 1 with fail
  rw [HV.out]
  clear HV
  obtain ⟨qt_0, qt_1, qt_2, qt_3, qt_4, qt_5, qt_6, qt_7, qt_8, qt_9, qt_10⟩ := Kt.out.c11
  have lt := Kt.out.lt
  obtain ⟨ft_0, ft_1, ft_2, ft_3, ft_4, ft_5, ft_6, ft_7, ft_8, ft_9, ft_10⟩ := Kt.out.f11
  have x0 : Bk _ w.heap.size 44 #[.int .i64 id, .int .i64 tn, .int .i64 pg, .int .i64 k, .int .i64 un, .int .i64 k0, .int .i64 k1, .int .i64 k2, .int .i64 k3, .int .i64 st, .int .i64 (rn + 1)] := Kt.out.set_ 10 (.int .i64 (rn + 1))
  have x_r := Kr.out.far (p := ⟨w.heap.size, 10, none⟩) Nt_r.out.symm (.int .i64 (rn + 1))
  have x_x := Kx.out.far (p := ⟨w.heap.size, 10, none⟩) Nt_x.out.symm (.int .i64 (rn + 1))
  have xb := BB.out.setCell (p := ⟨w.heap.size, 10, none⟩) HBt.out (.int .i64 (rn + 1))
  obtain ⟨X1, hX⟩ : ∃ X, World.setCell V ⟨w.heap.size, 10, none⟩ (.int .i64 (rn + 1)) = X := ⟨_, rfl⟩
  rw [hX] at x0 xb x_r x_x
  have HX := Lib.hid hX
  replace Kt := Lib.hid x0
  replace BB := Lib.hid xb
  replace Kr := Lib.hid x_r
  replace Kx := Lib.hid x_x
  clear hX x0 xb x_r x_x
  go_upto_region 6 with fail
  rw [HX.out]
  clear HX
  clear qt_0 qt_1 qt_2 qt_3 qt_4 qt_5 qt_6 qt_7 qt_8 qt_9 qt_10 lt ft_0 ft_1 ft_2 ft_3 ft_4 ft_5 ft_6 ft_7 ft_8 ft_9 ft_10
  obtain ⟨qt_0, qt_1, qt_2, qt_3, qt_4, qt_5, qt_6, qt_7, qt_8, qt_9, qt_10⟩ := Kt.out.c11
  have lt := Kt.out.lt
  go_wp2_with fail
  refine (HA.out _ BB.out).mono ?_
  rintro e U2 ⟨rfl, bU2⟩
  clear qt_0 qt_1 qt_2 qt_3 qt_4 qt_5 qt_6 qt_7 qt_8 qt_9 qt_10 lt
  replace BB := Lib.hid (below3 BB.out bU2)
  replace Kt := Lib.hid (Kt.out.below bU2 Kt.out.lt)
  replace Kr := Lib.hid (Kr.out.below bU2 Kr.out.lt)
  replace Kx := Lib.hid (Kx.out.below bU2 Kx.out.lt)
  clear bU2
  have kn := Bk.new U2 50 #[.int .i64 xo, .int .i64 xa, .int .i64 xb]
  have ba := (Below.refl U2.heap.size U2).alloc (Nat.le_refl _) (.cells #[.int .i64 xo, .int .i64 xa, .int .i64 xb] 50)
  have hgb := BB.out.size
  have nt_i := Nat.ne_of_lt Kt.out.lt
  have nr_i := Nat.ne_of_lt Kr.out.lt
  have nx_i := Nat.ne_of_lt Kx.out.lt
  replace BB := Lib.hid (below3 BB.out ba)
  replace Kt := Lib.hid (Kt.out.below ba Kt.out.lt)
  replace Kr := Lib.hid (Kr.out.below ba Kr.out.lt)
  replace Kx := Lib.hid (Kx.out.below ba Kx.out.lt)
  obtain ⟨gi, hg⟩ : ∃ g, U2.heap.size = g := ⟨_, rfl⟩
  obtain ⟨V3, hW⟩ : ∃ W, U2.alloc (.cells #[.int .i64 xo, .int .i64 xa, .int .i64 xb] 50) = W := ⟨_, rfl⟩
  have Ki := Lib.hid kn
  rw [hW] at BB Ki Kt Kr Kx
  rw [hg] at Ki hgb nt_i nr_i nx_i
  have HGi := Lib.hid hg
  have HWi := Lib.hid hW
  have HBi := Lib.hid hgb
  have Nt_i := Lib.hid nt_i
  have Nr_i := Lib.hid nr_i
  have Nx_i := Lib.hid nx_i
  clear hW hg kn ba hgb nt_i nr_i nx_i
  go_upto_region 7 with fail
  rw [HWi.out]
  try rw [HGi.out]
  clear HWi HGi
  obtain ⟨qt_0, qt_1, qt_2, qt_3, qt_4, qt_5, qt_6, qt_7, qt_8, qt_9, qt_10⟩ := Kt.out.c11
  have lt := Kt.out.lt
  obtain ⟨ft_0, ft_1, ft_2, ft_3, ft_4, ft_5, ft_6, ft_7, ft_8, ft_9, ft_10⟩ := Kt.out.f11
  obtain ⟨qi_0, qi_1, qi_2⟩ := Ki.out.c3
  have li := Ki.out.lt
  obtain ⟨fi_0, fi_1, fi_2⟩ := Ki.out.f3
  have x0 : Bk _ w.heap.size 44 #[.int .i64 id, .int .i64 tn, .int .i64 pg, .int .i64 (k + 1), .int .i64 un, .int .i64 k0, .int .i64 k1, .int .i64 k2, .int .i64 k3, .int .i64 st, .int .i64 (rn + 1)] := Kt.out.set_ 3 (.int .i64 (k + 1))
  have x_r := Kr.out.far (p := ⟨w.heap.size, 3, none⟩) Nt_r.out.symm (.int .i64 (k + 1))
  have x_x := Kx.out.far (p := ⟨w.heap.size, 3, none⟩) Nt_x.out.symm (.int .i64 (k + 1))
  have x_i := Ki.out.far (p := ⟨w.heap.size, 3, none⟩) Nt_i.out.symm (.int .i64 (k + 1))
  have xb := BB.out.setCell (p := ⟨w.heap.size, 3, none⟩) HBt.out (.int .i64 (k + 1))
  obtain ⟨X4, hX⟩ : ∃ X, World.setCell V3 ⟨w.heap.size, 3, none⟩ (.int .i64 (k + 1)) = X := ⟨_, rfl⟩
  rw [hX] at x0 xb x_r x_x x_i
  have HX := Lib.hid hX
  replace Kt := Lib.hid x0
  replace BB := Lib.hid xb
  replace Kr := Lib.hid x_r
  replace Kx := Lib.hid x_x
  replace Ki := Lib.hid x_i
  clear hX x0 xb x_r x_x x_i
  go_upto_region 10 with fail
  rw [HM.out]
  rw [HX.out]
  clear HX
  clear qt_0 qt_1 qt_2 qt_3 qt_4 qt_5 qt_6 qt_7 qt_8 qt_9 qt_10 lt ft_0 ft_1 ft_2 ft_3 ft_4 ft_5 ft_6 ft_7 ft_8 ft_9 ft_10 qi_0 qi_1 qi_2 li fi_0 fi_1 fi_2
  obtain ⟨qt_0, qt_1, qt_2, qt_3, qt_4, qt_5, qt_6, qt_7, qt_8, qt_9, qt_10⟩ := Kt.out.c11
  have lt := Kt.out.lt
  obtain ⟨qi_0, qi_1, qi_2⟩ := Ki.out.c3
  have li := Ki.out.lt
  have pt_i := Nt_i.out
  have pr_i := Nr_i.out
  have px_i := Nx_i.out
  obtain ⟨qr_0, qr_1, qr_2, qr_3, qr_4, qr_5, qr_6, qr_7, qr_8, qr_9, qr_10⟩ := Kr.out.c11
  have lr := Kr.out.lt
  obtain ⟨fr_0, fr_1, fr_2, fr_3, fr_4, fr_5, fr_6, fr_7, fr_8, fr_9, fr_10⟩ := Kr.out.f11
  obtain ⟨qx_0, qx_1, qx_2⟩ := Kx.out.c3
  have lx := Kx.out.lt
  obtain ⟨fx_0, fx_1, fx_2⟩ := Kx.out.f3
  have B_r := Lib.hid (below_set11 (g := (w.heap.size + 1)) BB.out HBr.out (.int .i64 id) (.int .i64 tn) (.int .i64 pg) (.int .i64 (k + 1)) (.int .i64 un) (.int .i64 k0) (.int .i64 k1) (.int .i64 k2) (.int .i64 k3) (.int .i64 st) (.int .i64 (rn + 1)))
  have S_r := Lib.hid (bk_set11 Kr.out (.int .i64 id) (.int .i64 tn) (.int .i64 pg) (.int .i64 (k + 1)) (.int .i64 un) (.int .i64 k0) (.int .i64 k1) (.int .i64 k2) (.int .i64 k3) (.int .i64 st) (.int .i64 (rn + 1)))
  have F_x_r := Lib.hid (far_set11 Kx.out (Nr_x.out.symm) (.int .i64 id) (.int .i64 tn) (.int .i64 pg) (.int .i64 (k + 1)) (.int .i64 un) (.int .i64 k0) (.int .i64 k1) (.int .i64 k2) (.int .i64 k3) (.int .i64 st) (.int .i64 (rn + 1)))
  have B_x := Lib.hid (below_set3 (g := (w.heap.size + 1 + 1)) B_r.out HBx.out (.int .i64 xo) (.int .i64 xa) (.int .i64 xb))
  have S_x := Lib.hid (bk_set3 F_x_r.out (.int .i64 xo) (.int .i64 xa) (.int .i64 xb))
  have F_r_x := Lib.hid (far_set3 S_r.out (Nr_x.out) (.int .i64 xo) (.int .i64 xa) (.int .i64 xb))
  unfold set11 set3 at B_x
  go_region
  go_wp2
  obtain ⟨rr_0, rr_1, rr_2, rr_3, rr_4, rr_5, rr_6, rr_7, rr_8, rr_9, rr_10⟩ := Bk.c11 (F_r_x.out.drew)
  obtain ⟨rx_0, rx_1, rx_2⟩ := Bk.c3 (S_x.out.drew)
  unfold set11 set3 at rr_0 rr_1 rr_2 rr_3 rr_4 rr_5 rr_6 rr_7 rr_8 rr_9 rr_10 rx_0 rx_1 rx_2
  exact bodyPost_ret (v := .tuple #[.agg #[.int .i64 id, .int .i64 tn, .int .i64 pg, .int .i64 (k + 1), .int .i64 un, .int .i64 k0, .int .i64 k1, .int .i64 k2, .int .i64 k3, .int .i64 st, .int .i64 (rn + 1)], .agg #[.int .i64 xo, .int .i64 xa, .int .i64 xb], .int .i64 0]) (by simp [results, Tryd.results66, go_sem, rr_0, rr_1, rr_2, rr_3, rr_4, rr_5, rr_6, rr_7, rr_8, rr_9, rr_10, rx_0, rx_1, rx_2]) rfl ⟨rfl, B_x.out.drew⟩

set_option maxRecDepth 100000 in
set_option maxHeartbeats 4000000 in
theorem unit_5 (t : Tk) (A : Option Addr) (n c : Nat) (p : List I3) (w : World) (hp : Prog w A n c p) (hk : ∃ k : Nat, t.pc = k ∧ k ≤ p.length ∧ p.length ≤ 32 ∧ 0 ≤ t.un ∧ t.un < 100 ∧ 0 ≤ t.rn ∧ t.rn ≤ 1099511627776 ∧ (t.un = 0 ∨ ((atN p k).1 = 1 ∧ t.un < (atN p k).2.1))) (hs : t.st = 2) (hr : t.rn ≠ 1099511627776) (hm : (atI p t.pc).1 ≠ 1) (hl : ¬ t.pc < n) : Calls Tryd.prog 66 #[.agg (tc t), .slice A n c] w (RetB (.tuple #[.agg (tc (unitR t p).1), vI (unitR t p).2.1, .int .i64 (unitR t p).2.2]) w) := by
  have HN := Lib.hid hp.1
  have HP := Lib.hid hp
  have hn := Nat.le_trans hp.2.1.1 hp.2.1.2
  obtain ⟨k, hk, h1, h2, h3, h4, h5, h6, -⟩ := hk
  rw [hp.1] at h1 h2
  clear hp
  obtain ⟨id, tn, pg, pc, un, k0, k1, k2, k3, st, rn⟩ := t
  dsimp only at hk h1 h2 h3 h4 h5 h6
  subst hk
  rw [unitR_5 hs hr hm (by rw [HN.out]; exact hl)]
  have e : atI p (k : Int) = atN p k := by unfold atI; rw [Int.toNat_natCast]
  dsimp only at hs hr hm ⊢
  rw [e] at hm ⊢
  have HA := Lib.hid (fun (W : World) (h : Below w.heap.size w W) => at_any A n c p W (HP.out.below h) k h1)
  generalize atN p k = x at hm HA ⊢
  obtain ⟨xo, xa, xb⟩ := x
  unfold tc vI
  try unfold zI
  unfold vI at HA
  dsimp only at hm HA ⊢
  have d0 : (st == 2) = true := by simpa using hs
  have d1 : (rn == 1099511627776) = false := by simpa using hr
  have hrn : rn + 1 ≤ 1099511627776 := by omega
  clear hs
  have d2 : (xo == 1) = false := by simpa using hm
  clear hm hr
  obtain rfl : n = k := by dsimp only at hl; omega
  have HM : Hid (min ((n : Int) + 1) (n : Int) = (n : Int)) := Lib.hid (by omega)
  clear hl
  obtain ⟨kb0, kb1, kb2, hb0⟩ := lies3 w #[.int .i64 id, .int .i64 tn, .int .i64 pg, .int .i64 n, .int .i64 un, .int .i64 k0, .int .i64 k1, .int .i64 k2, .int .i64 k3, .int .i64 st, .int .i64 rn] #[.int .i64 0, .int .i64 0, .int .i64 0, .int .i64 0, .int .i64 0, .int .i64 0, .int .i64 0, .int .i64 0, .int .i64 0, .int .i64 0, .int .i64 0] #[.int .i64 0, .int .i64 0, .int .i64 0] 44 44 72
  obtain ⟨V, hV⟩ : ∃ V, ((w.alloc (.cells #[.int .i64 id, .int .i64 tn, .int .i64 pg, .int .i64 n, .int .i64 un, .int .i64 k0, .int .i64 k1, .int .i64 k2, .int .i64 k3, .int .i64 st, .int .i64 rn] 44)).alloc (.cells #[.int .i64 0, .int .i64 0, .int .i64 0, .int .i64 0, .int .i64 0, .int .i64 0, .int .i64 0, .int .i64 0, .int .i64 0, .int .i64 0, .int .i64 0] 44)).alloc (.cells #[.int .i64 0, .int .i64 0, .int .i64 0] 72) = V := ⟨_, rfl⟩
  rw [hV] at hb0 kb0 kb1 kb2
  have HV := Lib.hid hV
  have BB := Lib.hid hb0
  have Kt := Lib.hid kb0
  have HBt : Hid (w.heap.size ≤ w.heap.size) := Lib.hid (by omega)
  have Kr := Lib.hid kb1
  have HBr : Hid (w.heap.size ≤ (w.heap.size + 1)) := Lib.hid (by omega)
  have Nt_r : Hid (w.heap.size ≠ (w.heap.size + 1)) := Lib.hid (by omega)
  have Kx := Lib.hid kb2
  have HBx : Hid (w.heap.size ≤ (w.heap.size + 1 + 1)) := Lib.hid (by omega)
  have Nt_x : Hid (w.heap.size ≠ (w.heap.size + 1 + 1)) := Lib.hid (by omega)
  have Nr_x : Hid ((w.heap.size + 1) ≠ (w.heap.size + 1 + 1)) := Lib.hid (by omega)
  clear hV hb0 kb0 kb1 kb2
  go_enter Tryd.func66, Tryd.ntmps66
  go_upto_region 1 with fail
  rw [HV.out]
  clear HV
  obtain ⟨qt_0, qt_1, qt_2, qt_3, qt_4, qt_5, qt_6, qt_7, qt_8, qt_9, qt_10⟩ := Kt.out.c11
  have lt := Kt.out.lt
  obtain ⟨ft_0, ft_1, ft_2, ft_3, ft_4, ft_5, ft_6, ft_7, ft_8, ft_9, ft_10⟩ := Kt.out.f11
  have x0 : Bk _ w.heap.size 44 #[.int .i64 id, .int .i64 tn, .int .i64 pg, .int .i64 n, .int .i64 un, .int .i64 k0, .int .i64 k1, .int .i64 k2, .int .i64 k3, .int .i64 st, .int .i64 (rn + 1)] := Kt.out.set_ 10 (.int .i64 (rn + 1))
  have x_r := Kr.out.far (p := ⟨w.heap.size, 10, none⟩) Nt_r.out.symm (.int .i64 (rn + 1))
  have x_x := Kx.out.far (p := ⟨w.heap.size, 10, none⟩) Nt_x.out.symm (.int .i64 (rn + 1))
  have xb := BB.out.setCell (p := ⟨w.heap.size, 10, none⟩) HBt.out (.int .i64 (rn + 1))
  obtain ⟨X1, hX⟩ : ∃ X, World.setCell V ⟨w.heap.size, 10, none⟩ (.int .i64 (rn + 1)) = X := ⟨_, rfl⟩
  rw [hX] at x0 xb x_r x_x
  have HX := Lib.hid hX
  replace Kt := Lib.hid x0
  replace BB := Lib.hid xb
  replace Kr := Lib.hid x_r
  replace Kx := Lib.hid x_x
  clear hX x0 xb x_r x_x
  go_upto_region 6 with fail
  rw [HX.out]
  clear HX
  clear qt_0 qt_1 qt_2 qt_3 qt_4 qt_5 qt_6 qt_7 qt_8 qt_9 qt_10 lt ft_0 ft_1 ft_2 ft_3 ft_4 ft_5 ft_6 ft_7 ft_8 ft_9 ft_10
  obtain ⟨qt_0, qt_1, qt_2, qt_3, qt_4, qt_5, qt_6, qt_7, qt_8, qt_9, qt_10⟩ := Kt.out.c11
  have lt := Kt.out.lt
  go_wp2_with fail
  refine (HA.out _ BB.out).mono ?_
  rintro e U2 ⟨rfl, bU2⟩
  clear qt_0 qt_1 qt_2 qt_3 qt_4 qt_5 qt_6 qt_7 qt_8 qt_9 qt_10 lt
  replace BB := Lib.hid (below3 BB.out bU2)
  replace Kt := Lib.hid (Kt.out.below bU2 Kt.out.lt)
  replace Kr := Lib.hid (Kr.out.below bU2 Kr.out.lt)
  replace Kx := Lib.hid (Kx.out.below bU2 Kx.out.lt)
  clear bU2
  have kn := Bk.new U2 50 #[.int .i64 xo, .int .i64 xa, .int .i64 xb]
  have ba := (Below.refl U2.heap.size U2).alloc (Nat.le_refl _) (.cells #[.int .i64 xo, .int .i64 xa, .int .i64 xb] 50)
  have hgb := BB.out.size
  have nt_i := Nat.ne_of_lt Kt.out.lt
  have nr_i := Nat.ne_of_lt Kr.out.lt
  have nx_i := Nat.ne_of_lt Kx.out.lt
  replace BB := Lib.hid (below3 BB.out ba)
  replace Kt := Lib.hid (Kt.out.below ba Kt.out.lt)
  replace Kr := Lib.hid (Kr.out.below ba Kr.out.lt)
  replace Kx := Lib.hid (Kx.out.below ba Kx.out.lt)
  obtain ⟨gi, hg⟩ : ∃ g, U2.heap.size = g := ⟨_, rfl⟩
  obtain ⟨V3, hW⟩ : ∃ W, U2.alloc (.cells #[.int .i64 xo, .int .i64 xa, .int .i64 xb] 50) = W := ⟨_, rfl⟩
  have Ki := Lib.hid kn
  rw [hW] at BB Ki Kt Kr Kx
  rw [hg] at Ki hgb nt_i nr_i nx_i
  have HGi := Lib.hid hg
  have HWi := Lib.hid hW
  have HBi := Lib.hid hgb
  have Nt_i := Lib.hid nt_i
  have Nr_i := Lib.hid nr_i
  have Nx_i := Lib.hid nx_i
  clear hW hg kn ba hgb nt_i nr_i nx_i
  go_upto_region 7 with fail
  rw [HWi.out]
  try rw [HGi.out]
  clear HWi HGi
  obtain ⟨qt_0, qt_1, qt_2, qt_3, qt_4, qt_5, qt_6, qt_7, qt_8, qt_9, qt_10⟩ := Kt.out.c11
  have lt := Kt.out.lt
  obtain ⟨ft_0, ft_1, ft_2, ft_3, ft_4, ft_5, ft_6, ft_7, ft_8, ft_9, ft_10⟩ := Kt.out.f11
  obtain ⟨qi_0, qi_1, qi_2⟩ := Ki.out.c3
  have li := Ki.out.lt
  obtain ⟨fi_0, fi_1, fi_2⟩ := Ki.out.f3
  have x0 : Bk _ w.heap.size 44 #[.int .i64 id, .int .i64 tn, .int .i64 pg, .int .i64 n, .int .i64 un, .int .i64 k0, .int .i64 k1, .int .i64 k2, .int .i64 k3, .int .i64 st, .int .i64 (rn + 1)] := Kt.out.set_ 3 (.int .i64 n)
  have x_r := Kr.out.far (p := ⟨w.heap.size, 3, none⟩) Nt_r.out.symm (.int .i64 n)
  have x_x := Kx.out.far (p := ⟨w.heap.size, 3, none⟩) Nt_x.out.symm (.int .i64 n)
  have x_i := Ki.out.far (p := ⟨w.heap.size, 3, none⟩) Nt_i.out.symm (.int .i64 n)
  have xb := BB.out.setCell (p := ⟨w.heap.size, 3, none⟩) HBt.out (.int .i64 n)
  obtain ⟨X4, hX⟩ : ∃ X, World.setCell V3 ⟨w.heap.size, 3, none⟩ (.int .i64 n) = X := ⟨_, rfl⟩
  rw [hX] at x0 xb x_r x_x x_i
  have HX := Lib.hid hX
  replace Kt := Lib.hid x0
  replace BB := Lib.hid xb
  replace Kr := Lib.hid x_r
  replace Kx := Lib.hid x_x
  replace Ki := Lib.hid x_i
  clear hX x0 xb x_r x_x x_i
  go_upto_region 10 with fail
  rw [HM.out]
  rw [HX.out]
  clear HX
  clear qt_0 qt_1 qt_2 qt_3 qt_4 qt_5 qt_6 qt_7 qt_8 qt_9 qt_10 lt ft_0 ft_1 ft_2 ft_3 ft_4 ft_5 ft_6 ft_7 ft_8 ft_9 ft_10 qi_0 qi_1 qi_2 li fi_0 fi_1 fi_2
  obtain ⟨qt_0, qt_1, qt_2, qt_3, qt_4, qt_5, qt_6, qt_7, qt_8, qt_9, qt_10⟩ := Kt.out.c11
  have lt := Kt.out.lt
  obtain ⟨qi_0, qi_1, qi_2⟩ := Ki.out.c3
  have li := Ki.out.lt
  have pt_i := Nt_i.out
  have pr_i := Nr_i.out
  have px_i := Nx_i.out
  obtain ⟨qr_0, qr_1, qr_2, qr_3, qr_4, qr_5, qr_6, qr_7, qr_8, qr_9, qr_10⟩ := Kr.out.c11
  have lr := Kr.out.lt
  obtain ⟨fr_0, fr_1, fr_2, fr_3, fr_4, fr_5, fr_6, fr_7, fr_8, fr_9, fr_10⟩ := Kr.out.f11
  obtain ⟨qx_0, qx_1, qx_2⟩ := Kx.out.c3
  have lx := Kx.out.lt
  obtain ⟨fx_0, fx_1, fx_2⟩ := Kx.out.f3
  have B_r := Lib.hid (below_set11 (g := (w.heap.size + 1)) BB.out HBr.out (.int .i64 id) (.int .i64 tn) (.int .i64 pg) (.int .i64 n) (.int .i64 un) (.int .i64 k0) (.int .i64 k1) (.int .i64 k2) (.int .i64 k3) (.int .i64 st) (.int .i64 (rn + 1)))
  have S_r := Lib.hid (bk_set11 Kr.out (.int .i64 id) (.int .i64 tn) (.int .i64 pg) (.int .i64 n) (.int .i64 un) (.int .i64 k0) (.int .i64 k1) (.int .i64 k2) (.int .i64 k3) (.int .i64 st) (.int .i64 (rn + 1)))
  have F_x_r := Lib.hid (far_set11 Kx.out (Nr_x.out.symm) (.int .i64 id) (.int .i64 tn) (.int .i64 pg) (.int .i64 n) (.int .i64 un) (.int .i64 k0) (.int .i64 k1) (.int .i64 k2) (.int .i64 k3) (.int .i64 st) (.int .i64 (rn + 1)))
  have B_x := Lib.hid (below_set3 (g := (w.heap.size + 1 + 1)) B_r.out HBx.out (.int .i64 xo) (.int .i64 xa) (.int .i64 xb))
  have S_x := Lib.hid (bk_set3 F_x_r.out (.int .i64 xo) (.int .i64 xa) (.int .i64 xb))
  have F_r_x := Lib.hid (far_set3 S_r.out (Nr_x.out) (.int .i64 xo) (.int .i64 xa) (.int .i64 xb))
  unfold set11 set3 at B_x
  go_region
  go_wp2
  obtain ⟨rr_0, rr_1, rr_2, rr_3, rr_4, rr_5, rr_6, rr_7, rr_8, rr_9, rr_10⟩ := Bk.c11 (F_r_x.out.drew)
  obtain ⟨rx_0, rx_1, rx_2⟩ := Bk.c3 (S_x.out.drew)
  unfold set11 set3 at rr_0 rr_1 rr_2 rr_3 rr_4 rr_5 rr_6 rr_7 rr_8 rr_9 rr_10 rx_0 rx_1 rx_2
  exact bodyPost_ret (v := .tuple #[.agg #[.int .i64 id, .int .i64 tn, .int .i64 pg, .int .i64 n, .int .i64 un, .int .i64 k0, .int .i64 k1, .int .i64 k2, .int .i64 k3, .int .i64 st, .int .i64 (rn + 1)], .agg #[.int .i64 xo, .int .i64 xa, .int .i64 xb], .int .i64 0]) (by simp [results, Tryd.results66, go_sem, rr_0, rr_1, rr_2, rr_3, rr_4, rr_5, rr_6, rr_7, rr_8, rr_9, rr_10, rx_0, rx_1, rx_2]) rfl ⟨rfl, B_x.out.drew⟩

theorem unit_any (t : Tk) (A : Option Addr) (n c : Nat) (p : List I3) (w : World) (hp : Prog w A n c p) (hk : ∃ k : Nat, t.pc = k ∧ k ≤ p.length ∧ p.length ≤ 32 ∧ 0 ≤ t.un ∧ t.un < 100 ∧ 0 ≤ t.rn ∧ t.rn ≤ 1099511627776 ∧ (t.un = 0 ∨ ((atN p k).1 = 1 ∧ t.un < (atN p k).2.1))) : Calls Tryd.prog 66 #[.agg (tc t), .slice A n c] w (RetB (.tuple #[.agg (tc (unitR t p).1), vI (unitR t p).2.1, .int .i64 (unitR t p).2.2]) w) := by
  by_cases hs : t.st = 2
  · by_cases hr : t.rn = 1099511627776
    · exact unit_2 t A n c p w hp hk hs hr
    · by_cases hm : (atI p t.pc).1 = 1
      · exact unit_3 t A n c p w hp hk hs hr hm
      · by_cases hl : t.pc < n
        · exact unit_4 t A n c p w hp hk hs hr hm hl
        · exact unit_5 t A n c p w hp hk hs hr hm hl
  · exact unit_1 t A n c p w hp hk hs

end Go.Proofs.YtfhlligcbpnkkaaDoor

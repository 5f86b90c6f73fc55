import Derived.Test.YtfhlligcbpnkkaaDoorMg4
import Derived.Test.YtfhlligcbpnkkaaDoorMg5

/-
  Layer 13: the program's at and work.
-/
namespace Go.Proofs.YtfhlligcbpnkkaaDoor
open Go.RowKit

set_option maxRecDepth 100000 in
set_option maxHeartbeats 4000000 in
theorem at_any (A : Option Addr) (n c : Nat) (p : List I3) (w : World) (hp : Prog w A n c p) (k : Nat) (hkn : k ≤ n) : Calls Tryd.prog 65 #[.slice A n c, .int .i64 k] w (RetB (vI (atN p k)) w) := by
  have HN := Lib.hid hp.1
  have HP := Lib.hid hp
  have hn := Nat.le_trans hp.2.1.1 hp.2.1.2
  clear hp
  by_cases hk : k = n
  · rw [atN_end (by rw [HN.out]; exact hk)]
    unfold vI
    dsimp only
    subst hk
    obtain ⟨kb0, hb0⟩ := lies1 w #[.int .i64 0, .int .i64 0, .int .i64 0] 50
    obtain ⟨V, hV⟩ : ∃ V, w.alloc (.cells #[.int .i64 0, .int .i64 0, .int .i64 0] 50) = V := ⟨_, rfl⟩
    rw [hV] at hb0 kb0
    have HV := Lib.hid hV
    have BB := Lib.hid hb0
    have Kr := Lib.hid kb0
    have HBr : Hid (w.heap.size ≤ w.heap.size) := Lib.hid (by omega)
    clear hV hb0 kb0
    go_enter Tryd.func65, Tryd.ntmps65
    go_upto_region 1 with fail
    rw [HV.out]
    clear HV
    obtain ⟨qr_0, qr_1, qr_2⟩ := Kr.out.c3
    have lr := Kr.out.lt
    obtain ⟨fr_0, fr_1, fr_2⟩ := Kr.out.f3
    have B_r := Lib.hid (below_set3 (g := w.heap.size) BB.out HBr.out (.int .i64 9) (.int .i64 0) (.int .i64 0))
    have S_r := Lib.hid (bk_set3 Kr.out (.int .i64 9) (.int .i64 0) (.int .i64 0))
    go_wp2
    obtain ⟨rr_0, rr_1, rr_2⟩ := S_r.out.c3
    unfold set3 at rr_0 rr_1 rr_2
    exact bodyPost_ret (v := .agg #[.int .i64 9, .int .i64 0, .int .i64 0]) (by simp [results, Tryd.results65, go_sem, rr_0, rr_1, rr_2]) rfl ⟨rfl, B_r.out⟩
  · rw [atN_in (by rw [HN.out]; omega)]
    unfold vI
    dsimp only
    obtain ⟨b, o, rfl, hbl, g0, g1, g2⟩ := HP.out.at_ (j := k) (by omega)
    generalize jO p k = x0 at g0 ⊢
    generalize jA p k = x1 at g1 ⊢
    generalize jB p k = x2 at g2 ⊢
    have P0 := g0
    have P1 := g1
    have P2 := g2
    obtain ⟨kb0, hb0⟩ := lies1 w #[.int .i64 0, .int .i64 0, .int .i64 0] 50
    obtain ⟨V, hV⟩ : ∃ V, w.alloc (.cells #[.int .i64 0, .int .i64 0, .int .i64 0] 50) = V := ⟨_, rfl⟩
    rw [hV] at hb0 kb0
    have HV := Lib.hid hV
    have BB := Lib.hid hb0
    have Kr := Lib.hid kb0
    have HBr : Hid (w.heap.size ≤ w.heap.size) := Lib.hid (by omega)
    clear hV hb0 kb0
    go_enter Tryd.func65, Tryd.ntmps65
    go_upto_region 1 with fail
    rw [HV.out]
    clear HV
    obtain ⟨d0, d1, d2⟩ : V.cell? ⟨b, o + k * 3, none⟩ = _ ∧ V.cell? ⟨b, o + k * 3 + 1, none⟩ = _ ∧ V.cell? ⟨b, o + k * 3 + 2, none⟩ = _ := ⟨(BB.out.cell (p := ⟨b, _, none⟩) hbl).trans g0, (BB.out.cell (p := ⟨b, _, none⟩) hbl).trans g1, (BB.out.cell (p := ⟨b, _, none⟩) hbl).trans g2⟩
    have hbl2 : b < V.heap.size := Nat.lt_of_lt_of_le hbl BB.out.size
    have hne : ¬ (k : Int) = n := by omega
    obtain ⟨qr_0, qr_1, qr_2⟩ := Kr.out.c3
    have lr := Kr.out.lt
    obtain ⟨fr_0, fr_1, fr_2⟩ := Kr.out.f3
    have B_r := Lib.hid (below_set3 (g := w.heap.size) BB.out HBr.out (.int .i64 x0) (.int .i64 x1) (.int .i64 x2))
    have S_r := Lib.hid (bk_set3 Kr.out (.int .i64 x0) (.int .i64 x1) (.int .i64 x2))
    go_wp2
    obtain ⟨rr_0, rr_1, rr_2⟩ := S_r.out.c3
    unfold set3 at rr_0 rr_1 rr_2
    exact bodyPost_ret (v := .agg #[.int .i64 x0, .int .i64 x1, .int .i64 x2]) (by simp [results, Tryd.results65, go_sem, rr_0, rr_1, rr_2]) rfl ⟨rfl, B_r.out⟩

set_option maxRecDepth 100000 in
set_option maxHeartbeats 4000000 in
theorem work_any (t : Tk) (u : Int) (w : World) (h0 : 0 ≤ t.un) (h1 : t.un < 100) (h2 : 0 ≤ t.pc) (h3 : t.pc < 33) : Calls Tryd.prog 68 #[.agg (tc t), .int .i64 u] w (RetB (.agg (tc (goW t u))) w) := by
  obtain ⟨id, tn, pg, pc, un, k0, k1, k2, k3, st, rn⟩ := t
  dsimp only at h0 h1 h2 h3
  unfold tc goW
  dsimp only
  by_cases hk : un + 1 = u
  · rw [if_pos hk]
    dsimp only
    subst hk
    obtain ⟨kb0, kb1, hb0⟩ := lies2 w #[.int .i64 id, .int .i64 tn, .int .i64 pg, .int .i64 pc, .int .i64 un, .int .i64 k0, .int .i64 k1, .int .i64 k2, .int .i64 k3, .int .i64 st, .int .i64 rn] #[.int .i64 0, .int .i64 0, .int .i64 0, .int .i64 0, .int .i64 0, .int .i64 0, .int .i64 0, .int .i64 0, .int .i64 0, .int .i64 0, .int .i64 0] 44 44
    obtain ⟨V, hV⟩ : ∃ V, (w.alloc (.cells #[.int .i64 id, .int .i64 tn, .int .i64 pg, .int .i64 pc, .int .i64 un, .int .i64 k0, .int .i64 k1, .int .i64 k2, .int .i64 k3, .int .i64 st, .int .i64 rn] 44)).alloc (.cells #[.int .i64 0, .int .i64 0, .int .i64 0, .int .i64 0, .int .i64 0, .int .i64 0, .int .i64 0, .int .i64 0, .int .i64 0, .int .i64 0, .int .i64 0] 44) = V := ⟨_, rfl⟩
    rw [hV] at hb0 kb0 kb1
    have HV := Lib.hid hV
    have BB := Lib.hid hb0
    have Kt := Lib.hid kb0
    have HBt : Hid (w.heap.size ≤ w.heap.size) := Lib.hid (by omega)
    have Kr := Lib.hid kb1
    have HBr : Hid (w.heap.size ≤ (w.heap.size + 1)) := Lib.hid (by omega)
    have Nt_r : Hid (w.heap.size ≠ (w.heap.size + 1)) := Lib.hid (by omega)
    clear hV hb0 kb0 kb1
    go_enter Tryd.func68, Tryd.ntmps68
    go_upto_region 1 with fail
    rw [HV.out]
    clear HV
    obtain ⟨qt_0, qt_1, qt_2, qt_3, qt_4, qt_5, qt_6, qt_7, qt_8, qt_9, qt_10⟩ := Kt.out.c11
    have lt := Kt.out.lt
    obtain ⟨ft_0, ft_1, ft_2, ft_3, ft_4, ft_5, ft_6, ft_7, ft_8, ft_9, ft_10⟩ := Kt.out.f11
    have x0 : Bk _ w.heap.size 44 #[.int .i64 id, .int .i64 tn, .int .i64 pg, .int .i64 pc, .int .i64 (un + 1), .int .i64 k0, .int .i64 k1, .int .i64 k2, .int .i64 k3, .int .i64 st, .int .i64 rn] := Kt.out.set_ 4 (.int .i64 (un + 1))
    have x_r := Kr.out.far (p := ⟨w.heap.size, 4, none⟩) Nt_r.out.symm (.int .i64 (un + 1))
    have xb := BB.out.setCell (p := ⟨w.heap.size, 4, none⟩) HBt.out (.int .i64 (un + 1))
    obtain ⟨X1, hX⟩ : ∃ X, World.setCell V ⟨w.heap.size, 4, none⟩ (.int .i64 (un + 1)) = X := ⟨_, rfl⟩
    rw [hX] at x0 xb x_r
    have HX := Lib.hid hX
    replace Kt := Lib.hid x0
    replace BB := Lib.hid xb
    replace Kr := Lib.hid x_r
    clear hX x0 xb x_r
    go_upto_region 2 with fail
    rw [HX.out]
    clear HX
    clear qt_0 qt_1 qt_2 qt_3 qt_4 qt_5 qt_6 qt_7 qt_8 qt_9 qt_10 lt ft_0 ft_1 ft_2 ft_3 ft_4 ft_5 ft_6 ft_7 ft_8 ft_9 ft_10
    obtain ⟨qt_0, qt_1, qt_2, qt_3, qt_4, qt_5, qt_6, qt_7, qt_8, qt_9, qt_10⟩ := Kt.out.c11
    have lt := Kt.out.lt
    obtain ⟨ft_0, ft_1, ft_2, ft_3, ft_4, ft_5, ft_6, ft_7, ft_8, ft_9, ft_10⟩ := Kt.out.f11
    have x0 : Bk _ w.heap.size 44 #[.int .i64 id, .int .i64 tn, .int .i64 pg, .int .i64 pc, .int .i64 0, .int .i64 k0, .int .i64 k1, .int .i64 k2, .int .i64 k3, .int .i64 st, .int .i64 rn] := Kt.out.set_ 4 (.int .i64 0)
    have x_r := Kr.out.far (p := ⟨w.heap.size, 4, none⟩) Nt_r.out.symm (.int .i64 0)
    have xb := BB.out.setCell (p := ⟨w.heap.size, 4, none⟩) HBt.out (.int .i64 0)
    obtain ⟨X2, hX⟩ : ∃ X, World.setCell X1 ⟨w.heap.size, 4, none⟩ (.int .i64 0) = X := ⟨_, rfl⟩
    rw [hX] at x0 xb x_r
    have HX := Lib.hid hX
    replace Kt := Lib.hid x0
    replace BB := Lib.hid xb
    replace Kr := Lib.hid x_r
    clear hX x0 xb x_r
    go_upto_region 4 with fail
    rw [HX.out]
    clear HX
    clear qt_0 qt_1 qt_2 qt_3 qt_4 qt_5 qt_6 qt_7 qt_8 qt_9 qt_10 lt ft_0 ft_1 ft_2 ft_3 ft_4 ft_5 ft_6 ft_7 ft_8 ft_9 ft_10
    obtain ⟨qt_0, qt_1, qt_2, qt_3, qt_4, qt_5, qt_6, qt_7, qt_8, qt_9, qt_10⟩ := Kt.out.c11
    have lt := Kt.out.lt
    obtain ⟨ft_0, ft_1, ft_2, ft_3, ft_4, ft_5, ft_6, ft_7, ft_8, ft_9, ft_10⟩ := Kt.out.f11
    have x0 : Bk _ w.heap.size 44 #[.int .i64 id, .int .i64 tn, .int .i64 pg, .int .i64 (pc + 1), .int .i64 0, .int .i64 k0, .int .i64 k1, .int .i64 k2, .int .i64 k3, .int .i64 st, .int .i64 rn] := Kt.out.set_ 3 (.int .i64 (pc + 1))
    have x_r := Kr.out.far (p := ⟨w.heap.size, 3, none⟩) Nt_r.out.symm (.int .i64 (pc + 1))
    have xb := BB.out.setCell (p := ⟨w.heap.size, 3, none⟩) HBt.out (.int .i64 (pc + 1))
    obtain ⟨X3, hX⟩ : ∃ X, World.setCell X2 ⟨w.heap.size, 3, none⟩ (.int .i64 (pc + 1)) = X := ⟨_, rfl⟩
    rw [hX] at x0 xb x_r
    have HX := Lib.hid hX
    replace Kt := Lib.hid x0
    replace BB := Lib.hid xb
    replace Kr := Lib.hid x_r
    clear hX x0 xb x_r
    go_upto_region 5 with fail
    rw [HX.out]
    clear HX
    clear qt_0 qt_1 qt_2 qt_3 qt_4 qt_5 qt_6 qt_7 qt_8 qt_9 qt_10 lt ft_0 ft_1 ft_2 ft_3 ft_4 ft_5 ft_6 ft_7 ft_8 ft_9 ft_10
    obtain ⟨qt_0, qt_1, qt_2, qt_3, qt_4, qt_5, qt_6, qt_7, qt_8, qt_9, qt_10⟩ := Kt.out.c11
    have lt := Kt.out.lt
    obtain ⟨qr_0, qr_1, qr_2, qr_3, qr_4, qr_5, qr_6, qr_7, qr_8, qr_9, qr_10⟩ := Kr.out.c11
    have lr := Kr.out.lt
    obtain ⟨fr_0, fr_1, fr_2, fr_3, fr_4, fr_5, fr_6, fr_7, fr_8, fr_9, fr_10⟩ := Kr.out.f11
    have B_r := Lib.hid (below_set11 (g := (w.heap.size + 1)) BB.out HBr.out (.int .i64 id) (.int .i64 tn) (.int .i64 pg) (.int .i64 (pc + 1)) (.int .i64 0) (.int .i64 k0) (.int .i64 k1) (.int .i64 k2) (.int .i64 k3) (.int .i64 st) (.int .i64 rn))
    have S_r := Lib.hid (bk_set11 Kr.out (.int .i64 id) (.int .i64 tn) (.int .i64 pg) (.int .i64 (pc + 1)) (.int .i64 0) (.int .i64 k0) (.int .i64 k1) (.int .i64 k2) (.int .i64 k3) (.int .i64 st) (.int .i64 rn))
    go_wp2
    obtain ⟨rr_0, rr_1, rr_2, rr_3, rr_4, rr_5, rr_6, rr_7, rr_8, rr_9, rr_10⟩ := S_r.out.c11
    unfold set11 at rr_0 rr_1 rr_2 rr_3 rr_4 rr_5 rr_6 rr_7 rr_8 rr_9 rr_10
    exact bodyPost_ret (v := .agg #[.int .i64 id, .int .i64 tn, .int .i64 pg, .int .i64 (pc + 1), .int .i64 0, .int .i64 k0, .int .i64 k1, .int .i64 k2, .int .i64 k3, .int .i64 st, .int .i64 rn]) (by simp [results, Tryd.results68, go_sem, rr_0, rr_1, rr_2, rr_3, rr_4, rr_5, rr_6, rr_7, rr_8, rr_9, rr_10]) rfl ⟨rfl, B_r.out⟩
  · rw [if_neg hk]
    dsimp only
    have hk2 : (un + 1 == u) = false := by simpa using hk
    clear hk
    obtain ⟨kb0, kb1, hb0⟩ := lies2 w #[.int .i64 id, .int .i64 tn, .int .i64 pg, .int .i64 pc, .int .i64 un, .int .i64 k0, .int .i64 k1, .int .i64 k2, .int .i64 k3, .int .i64 st, .int .i64 rn] #[.int .i64 0, .int .i64 0, .int .i64 0, .int .i64 0, .int .i64 0, .int .i64 0, .int .i64 0, .int .i64 0, .int .i64 0, .int .i64 0, .int .i64 0] 44 44
    obtain ⟨V, hV⟩ : ∃ V, (w.alloc (.cells #[.int .i64 id, .int .i64 tn, .int .i64 pg, .int .i64 pc, .int .i64 un, .int .i64 k0, .int .i64 k1, .int .i64 k2, .int .i64 k3, .int .i64 st, .int .i64 rn] 44)).alloc (.cells #[.int .i64 0, .int .i64 0, .int .i64 0, .int .i64 0, .int .i64 0, .int .i64 0, .int .i64 0, .int .i64 0, .int .i64 0, .int .i64 0, .int .i64 0] 44) = V := ⟨_, rfl⟩
    rw [hV] at hb0 kb0 kb1
    have HV := Lib.hid hV
    have BB := Lib.hid hb0
    have Kt := Lib.hid kb0
    have HBt : Hid (w.heap.size ≤ w.heap.size) := Lib.hid (by omega)
    have Kr := Lib.hid kb1
    have HBr : Hid (w.heap.size ≤ (w.heap.size + 1)) := Lib.hid (by omega)
    have Nt_r : Hid (w.heap.size ≠ (w.heap.size + 1)) := Lib.hid (by omega)
    clear hV hb0 kb0 kb1
    go_enter Tryd.func68, Tryd.ntmps68
    go_upto_region 1 with fail
    rw [HV.out]
    clear HV
    obtain ⟨qt_0, qt_1, qt_2, qt_3, qt_4, qt_5, qt_6, qt_7, qt_8, qt_9, qt_10⟩ := Kt.out.c11
    have lt := Kt.out.lt
    obtain ⟨ft_0, ft_1, ft_2, ft_3, ft_4, ft_5, ft_6, ft_7, ft_8, ft_9, ft_10⟩ := Kt.out.f11
    have x0 : Bk _ w.heap.size 44 #[.int .i64 id, .int .i64 tn, .int .i64 pg, .int .i64 pc, .int .i64 (un + 1), .int .i64 k0, .int .i64 k1, .int .i64 k2, .int .i64 k3, .int .i64 st, .int .i64 rn] := Kt.out.set_ 4 (.int .i64 (un + 1))
    have x_r := Kr.out.far (p := ⟨w.heap.size, 4, none⟩) Nt_r.out.symm (.int .i64 (un + 1))
    have xb := BB.out.setCell (p := ⟨w.heap.size, 4, none⟩) HBt.out (.int .i64 (un + 1))
    obtain ⟨X1, hX⟩ : ∃ X, World.setCell V ⟨w.heap.size, 4, none⟩ (.int .i64 (un + 1)) = X := ⟨_, rfl⟩
    rw [hX] at x0 xb x_r
    have HX := Lib.hid hX
    replace Kt := Lib.hid x0
    replace BB := Lib.hid xb
    replace Kr := Lib.hid x_r
    clear hX x0 xb x_r
    go_upto_region 2 with fail
    rw [HX.out]
    clear HX
    clear qt_0 qt_1 qt_2 qt_3 qt_4 qt_5 qt_6 qt_7 qt_8 qt_9 qt_10 lt ft_0 ft_1 ft_2 ft_3 ft_4 ft_5 ft_6 ft_7 ft_8 ft_9 ft_10
    obtain ⟨qt_0, qt_1, qt_2, qt_3, qt_4, qt_5, qt_6, qt_7, qt_8, qt_9, qt_10⟩ := Kt.out.c11
    have lt := Kt.out.lt
    obtain ⟨qr_0, qr_1, qr_2, qr_3, qr_4, qr_5, qr_6, qr_7, qr_8, qr_9, qr_10⟩ := Kr.out.c11
    have lr := Kr.out.lt
    obtain ⟨fr_0, fr_1, fr_2, fr_3, fr_4, fr_5, fr_6, fr_7, fr_8, fr_9, fr_10⟩ := Kr.out.f11
    have B_r := Lib.hid (below_set11 (g := (w.heap.size + 1)) BB.out HBr.out (.int .i64 id) (.int .i64 tn) (.int .i64 pg) (.int .i64 pc) (.int .i64 (un + 1)) (.int .i64 k0) (.int .i64 k1) (.int .i64 k2) (.int .i64 k3) (.int .i64 st) (.int .i64 rn))
    have S_r := Lib.hid (bk_set11 Kr.out (.int .i64 id) (.int .i64 tn) (.int .i64 pg) (.int .i64 pc) (.int .i64 (un + 1)) (.int .i64 k0) (.int .i64 k1) (.int .i64 k2) (.int .i64 k3) (.int .i64 st) (.int .i64 rn))
    go_wp2
    obtain ⟨rr_0, rr_1, rr_2, rr_3, rr_4, rr_5, rr_6, rr_7, rr_8, rr_9, rr_10⟩ := S_r.out.c11
    unfold set11 at rr_0 rr_1 rr_2 rr_3 rr_4 rr_5 rr_6 rr_7 rr_8 rr_9 rr_10
    exact bodyPost_ret (v := .agg #[.int .i64 id, .int .i64 tn, .int .i64 pg, .int .i64 pc, .int .i64 (un + 1), .int .i64 k0, .int .i64 k1, .int .i64 k2, .int .i64 k3, .int .i64 st, .int .i64 rn]) (by simp [results, Tryd.results68, go_sem, rr_0, rr_1, rr_2, rr_3, rr_4, rr_5, rr_6, rr_7, rr_8, rr_9, rr_10]) rfl ⟨rfl, B_r.out⟩

end Go.Proofs.YtfhlligcbpnkkaaDoor

/-
  Layer 12: the program's New, Move and Keep.
-/
namespace Go.Proofs.YtfhlligcbpnkkaaDoor
open Go.RowKit

theorem stB_no0 {b : Bool} (h : ¬ b = true) : b = false := by simpa using h

set_option maxHeartbeats 4000000 in
theorem move_any (t : Tk) (nx : Int) (w : World) (hF : Fol w) : Calls Tryd.prog 60 #[.agg (tc t), .int .i64 nx] w (RetB (.tuple #[.agg (tc (moveR t nx).2), .int .i64 (moveR t nx).1]) w) := by
  obtain ⟨id, tn, pg, pc, un, k0, k1, k2, k3, st, rn⟩ := t
  have HC := Lib.hid (fun w => chk_any ⟨id, tn, pg, pc, un, k0, k1, k2, k3, st, rn⟩ w)
  unfold tc at HC ⊢
  dsimp only at HC ⊢
  by_cases h1 : okT ⟨id, tn, pg, pc, un, k0, k1, k2, k3, st, rn⟩
  · by_cases h2 : stB nx = true
    · by_cases h3 : legB (Tk.st ⟨id, tn, pg, pc, un, k0, k1, k2, k3, st, rn⟩) nx = true
      · rw [moveR_4 h1 h2 h3]
        have HE := Lib.hid (chk_0 h1)
        have HS := Lib.hid h2
        have HL := Lib.hid h3
        dsimp only at HL ⊢
        clear h1 h2 h3
        obtain ⟨kb1, kb2, hb0⟩ := lies2 w #[.int .i64 id, .int .i64 tn, .int .i64 pg, .int .i64 pc, .int .i64 un, .int .i64 k0, .int .i64 k1, .int .i64 k2, .int .i64 k3, .int .i64 st, .int .i64 rn] #[.int .i64 0, .int .i64 0, .int .i64 0, .int .i64 0, .int .i64 0, .int .i64 0, .int .i64 0, .int .i64 0, .int .i64 0, .int .i64 0, .int .i64 0] 44 44
        obtain ⟨V, hV⟩ : ∃ V, (w.alloc (.cells #[.int .i64 id, .int .i64 tn, .int .i64 pg, .int .i64 pc, .int .i64 un, .int .i64 k0, .int .i64 k1, .int .i64 k2, .int .i64 k3, .int .i64 st, .int .i64 rn] 44)).alloc (.cells #[.int .i64 0, .int .i64 0, .int .i64 0, .int .i64 0, .int .i64 0, .int .i64 0, .int .i64 0, .int .i64 0, .int .i64 0, .int .i64 0, .int .i64 0] 44) = V := ⟨_, rfl⟩
        rw [hV] at kb1 kb2 hb0
        have HV := Lib.hid hV
        have K1 := Lib.hid kb1
        have K2 := Lib.hid kb2
        have BB := Lib.hid hb0
        have HF := Lib.hid (hF.le hb0)
        clear hV kb1 kb2 hb0 hF
        obtain ⟨q0, q1, q2, q3, q4, q5, q6, q7, q8, q9, q10⟩ := K1.out.c11
        have lq := K1.out.lt
        go_enter Tryd.func60, Tryd.ntmps60
        go_upto_region 1 with fail
        rw [HV.out]
        clear HV
        go_wp2_with fail
        refine (HC.out _).mono ?_
        rw [HE.out]
        rintro e w1 ⟨rfl, b1⟩
        clear q0 q1 q2 q3 q4 q5 q6 q7 q8 q9 q10 lq
        replace K1 := Lib.hid (K1.out.below b1 K1.out.lt)
        replace K2 := Lib.hid (K2.out.below b1 K2.out.lt)
        replace BB := Lib.hid (below3 BB.out b1)
        replace HF := Lib.hid (HF.out.le b1)
        clear b1
        go_wp2_with fail
        refine (st_any nx _).mono ?_
        rw [HS.out]
        rintro e w2 ⟨rfl, rfl⟩
        obtain ⟨q0, q1, q2, q3, q4, q5, q6, q7, q8, q9, q10⟩ := K1.out.c11
        have lq := K1.out.lt
        go_wp2_with fail
        refine (leg_any st nx _ HF.out).mono ?_
        rw [HL.out]
        rintro e w2 ⟨rfl, rfl⟩
        obtain ⟨f0, f1, f2, f3, f4, f5, f6, f7, f8, f9, f10⟩ := K1.out.f11
        have x1 : Bk _ w.heap.size 44 #[.int .i64 id, .int .i64 tn, .int .i64 pg, .int .i64 pc, .int .i64 un, .int .i64 k0, .int .i64 k1, .int .i64 k2, .int .i64 k3, .int .i64 nx, .int .i64 rn] := K1.out.set_ 9 (.int .i64 nx)
        have x2 := K2.out.far (p := ⟨w.heap.size, 9, none⟩) (Nat.succ_ne_self _) (.int .i64 nx)
        have x3 := BB.out.setCell (p := ⟨w.heap.size, 9, none⟩) (Nat.le_refl _) (.int .i64 nx)
        obtain ⟨X, hX⟩ : ∃ X, World.setCell w1 ⟨w.heap.size, 9, none⟩ (.int .i64 nx) = X := ⟨_, rfl⟩
        rw [hX] at x1 x2 x3
        have HX := Lib.hid hX
        replace K1 := Lib.hid x1
        replace K2 := Lib.hid x2
        replace BB := Lib.hid x3
        clear hX x1 x2 x3
        go_upto_region 6 with fail
        rw [HX.out]
        clear HX q0 q1 q2 q3 q4 q5 q6 q7 q8 q9 q10 f0 f1 f2 f3 f4 f5 f6 f7 f8 f9 f10 lq
        obtain ⟨q0, q1, q2, q3, q4, q5, q6, q7, q8, q9, q10⟩ := K1.out.c11
        have lq := K1.out.lt
        obtain ⟨p0, p1, p2, p3, p4, p5, p6, p7, p8, p9, p10⟩ := K2.out.c11
        obtain ⟨f0, f1, f2, f3, f4, f5, f6, f7, f8, f9, f10⟩ := K2.out.f11
        have lr := K2.out.lt
        have B3 := Lib.hid (below_set11 (g := (w.heap.size + 1)) BB.out (Nat.le_succ _) (.int .i64 id) (.int .i64 tn) (.int .i64 pg) (.int .i64 pc) (.int .i64 un) (.int .i64 k0) (.int .i64 k1) (.int .i64 k2) (.int .i64 k3) (.int .i64 nx) (.int .i64 rn))
        have K3 := Lib.hid (bk_set11 K2.out (.int .i64 id) (.int .i64 tn) (.int .i64 pg) (.int .i64 pc) (.int .i64 un) (.int .i64 k0) (.int .i64 k1) (.int .i64 k2) (.int .i64 k3) (.int .i64 nx) (.int .i64 rn))
        go_wp2
        obtain ⟨r0, r1, r2, r3, r4, r5, r6, r7, r8, r9, r10⟩ := K3.out.c11
        unfold set11 at r0 r1 r2 r3 r4 r5 r6 r7 r8 r9 r10
        exact bodyPost_ret (v := .tuple #[.agg #[.int .i64 id, .int .i64 tn, .int .i64 pg, .int .i64 pc, .int .i64 un, .int .i64 k0, .int .i64 k1, .int .i64 k2, .int .i64 k3, .int .i64 nx, .int .i64 rn], .int .i64 0]) (by simp [results, Tryd.results60, go_sem, r0, r1, r2, r3, r4, r5, r6, r7, r8, r9, r10]) rfl ⟨rfl, B3.out⟩
      · rw [moveR_3 h1 h2 h3]
        have HE := Lib.hid (chk_0 h1)
        have HS := Lib.hid h2
        have h3n := stB_no0 h3
        have HL := Lib.hid h3n
        unfold zT
        dsimp only at HL ⊢
        clear h1 h2 h3 h3n
        obtain ⟨kb1, kb2, hb0⟩ := lies2 w #[.int .i64 id, .int .i64 tn, .int .i64 pg, .int .i64 pc, .int .i64 un, .int .i64 k0, .int .i64 k1, .int .i64 k2, .int .i64 k3, .int .i64 st, .int .i64 rn] #[.int .i64 0, .int .i64 0, .int .i64 0, .int .i64 0, .int .i64 0, .int .i64 0, .int .i64 0, .int .i64 0, .int .i64 0, .int .i64 0, .int .i64 0] 44 44
        obtain ⟨V, hV⟩ : ∃ V, (w.alloc (.cells #[.int .i64 id, .int .i64 tn, .int .i64 pg, .int .i64 pc, .int .i64 un, .int .i64 k0, .int .i64 k1, .int .i64 k2, .int .i64 k3, .int .i64 st, .int .i64 rn] 44)).alloc (.cells #[.int .i64 0, .int .i64 0, .int .i64 0, .int .i64 0, .int .i64 0, .int .i64 0, .int .i64 0, .int .i64 0, .int .i64 0, .int .i64 0, .int .i64 0] 44) = V := ⟨_, rfl⟩
        rw [hV] at kb1 kb2 hb0
        have HV := Lib.hid hV
        have K1 := Lib.hid kb1
        have K2 := Lib.hid kb2
        have BB := Lib.hid hb0
        have HF := Lib.hid (hF.le hb0)
        clear hV kb1 kb2 hb0 hF
        obtain ⟨q0, q1, q2, q3, q4, q5, q6, q7, q8, q9, q10⟩ := K1.out.c11
        have lq := K1.out.lt
        go_enter Tryd.func60, Tryd.ntmps60
        go_upto_region 1 with fail
        rw [HV.out]
        clear HV
        go_wp2_with fail
        refine (HC.out _).mono ?_
        rw [HE.out]
        rintro e w1 ⟨rfl, b1⟩
        clear q0 q1 q2 q3 q4 q5 q6 q7 q8 q9 q10 lq
        replace K1 := Lib.hid (K1.out.below b1 K1.out.lt)
        replace K2 := Lib.hid (K2.out.below b1 K2.out.lt)
        replace BB := Lib.hid (below3 BB.out b1)
        replace HF := Lib.hid (HF.out.le b1)
        clear b1
        go_wp2_with fail
        refine (st_any nx _).mono ?_
        rw [HS.out]
        rintro e w2 ⟨rfl, rfl⟩
        obtain ⟨q0, q1, q2, q3, q4, q5, q6, q7, q8, q9, q10⟩ := K1.out.c11
        have lq := K1.out.lt
        go_wp2_with fail
        refine (leg_any st nx _ HF.out).mono ?_
        rw [HL.out]
        rintro e w2 ⟨rfl, rfl⟩
        clear q0 q1 q2 q3 q4 q5 q6 q7 q8 q9 q10 lq
        obtain ⟨p0, p1, p2, p3, p4, p5, p6, p7, p8, p9, p10⟩ := K2.out.c11
        obtain ⟨f0, f1, f2, f3, f4, f5, f6, f7, f8, f9, f10⟩ := K2.out.f11
        have lr := K2.out.lt
        have B3 := Lib.hid (below_set11 (g := (w.heap.size + 1)) BB.out (Nat.le_succ _) (.int .i64 0) (.int .i64 0) (.int .i64 0) (.int .i64 0) (.int .i64 0) (.int .i64 0) (.int .i64 0) (.int .i64 0) (.int .i64 0) (.int .i64 0) (.int .i64 0))
        have K3 := Lib.hid (bk_set11 K2.out (.int .i64 0) (.int .i64 0) (.int .i64 0) (.int .i64 0) (.int .i64 0) (.int .i64 0) (.int .i64 0) (.int .i64 0) (.int .i64 0) (.int .i64 0) (.int .i64 0))
        go_wp2
        obtain ⟨r0, r1, r2, r3, r4, r5, r6, r7, r8, r9, r10⟩ := K3.out.c11
        unfold set11 at r0 r1 r2 r3 r4 r5 r6 r7 r8 r9 r10
        exact bodyPost_ret (v := .tuple #[.agg #[.int .i64 0, .int .i64 0, .int .i64 0, .int .i64 0, .int .i64 0, .int .i64 0, .int .i64 0, .int .i64 0, .int .i64 0, .int .i64 0, .int .i64 0], .int .i64 9]) (by simp [results, Tryd.results60, go_sem, r0, r1, r2, r3, r4, r5, r6, r7, r8, r9, r10]) rfl ⟨rfl, B3.out⟩
    · rw [moveR_2 h1 h2]
      have HE := Lib.hid (chk_0 h1)
      have HS := Lib.hid (stB_no h2)
      unfold zT
      dsimp only
      clear h1 h2
      obtain ⟨kb1, kb2, hb0⟩ := lies2 w #[.int .i64 id, .int .i64 tn, .int .i64 pg, .int .i64 pc, .int .i64 un, .int .i64 k0, .int .i64 k1, .int .i64 k2, .int .i64 k3, .int .i64 st, .int .i64 rn] #[.int .i64 0, .int .i64 0, .int .i64 0, .int .i64 0, .int .i64 0, .int .i64 0, .int .i64 0, .int .i64 0, .int .i64 0, .int .i64 0, .int .i64 0] 44 44
      obtain ⟨V, hV⟩ : ∃ V, (w.alloc (.cells #[.int .i64 id, .int .i64 tn, .int .i64 pg, .int .i64 pc, .int .i64 un, .int .i64 k0, .int .i64 k1, .int .i64 k2, .int .i64 k3, .int .i64 st, .int .i64 rn] 44)).alloc (.cells #[.int .i64 0, .int .i64 0, .int .i64 0, .int .i64 0, .int .i64 0, .int .i64 0, .int .i64 0, .int .i64 0, .int .i64 0, .int .i64 0, .int .i64 0] 44) = V := ⟨_, rfl⟩
      rw [hV] at kb1 kb2 hb0
      have HV := Lib.hid hV
      have K1 := Lib.hid kb1
      have K2 := Lib.hid kb2
      have BB := Lib.hid hb0
      have HF := Lib.hid (hF.le hb0)
      clear hV kb1 kb2 hb0 hF
      obtain ⟨q0, q1, q2, q3, q4, q5, q6, q7, q8, q9, q10⟩ := K1.out.c11
      have lq := K1.out.lt
      go_enter Tryd.func60, Tryd.ntmps60
      go_upto_region 1 with fail
      rw [HV.out]
      clear HV
      go_wp2_with fail
      refine (HC.out _).mono ?_
      rw [HE.out]
      rintro e w1 ⟨rfl, b1⟩
      clear q0 q1 q2 q3 q4 q5 q6 q7 q8 q9 q10 lq
      replace K1 := Lib.hid (K1.out.below b1 K1.out.lt)
      replace K2 := Lib.hid (K2.out.below b1 K2.out.lt)
      replace BB := Lib.hid (below3 BB.out b1)
      replace HF := Lib.hid (HF.out.le b1)
      clear b1
      go_wp2_with fail
      refine (st_any nx _).mono ?_
      rw [HS.out]
      rintro e w2 ⟨rfl, rfl⟩
      obtain ⟨p0, p1, p2, p3, p4, p5, p6, p7, p8, p9, p10⟩ := K2.out.c11
      obtain ⟨f0, f1, f2, f3, f4, f5, f6, f7, f8, f9, f10⟩ := K2.out.f11
      have lr := K2.out.lt
      have B3 := Lib.hid (below_set11 (g := (w.heap.size + 1)) BB.out (Nat.le_succ _) (.int .i64 0) (.int .i64 0) (.int .i64 0) (.int .i64 0) (.int .i64 0) (.int .i64 0) (.int .i64 0) (.int .i64 0) (.int .i64 0) (.int .i64 0) (.int .i64 0))
      have K3 := Lib.hid (bk_set11 K2.out (.int .i64 0) (.int .i64 0) (.int .i64 0) (.int .i64 0) (.int .i64 0) (.int .i64 0) (.int .i64 0) (.int .i64 0) (.int .i64 0) (.int .i64 0) (.int .i64 0))
      go_wp2
      obtain ⟨r0, r1, r2, r3, r4, r5, r6, r7, r8, r9, r10⟩ := K3.out.c11
      unfold set11 at r0 r1 r2 r3 r4 r5 r6 r7 r8 r9 r10
      exact bodyPost_ret (v := .tuple #[.agg #[.int .i64 0, .int .i64 0, .int .i64 0, .int .i64 0, .int .i64 0, .int .i64 0, .int .i64 0, .int .i64 0, .int .i64 0, .int .i64 0, .int .i64 0], .int .i64 1]) (by simp [results, Tryd.results60, go_sem, r0, r1, r2, r3, r4, r5, r6, r7, r8, r9, r10]) rfl ⟨rfl, B3.out⟩
  · rw [moveR_1 h1]
    have HE := Lib.hid (chk_1 h1)
    unfold zT
    dsimp only
    clear h1
    obtain ⟨kb1, kb2, hb0⟩ := lies2 w #[.int .i64 id, .int .i64 tn, .int .i64 pg, .int .i64 pc, .int .i64 un, .int .i64 k0, .int .i64 k1, .int .i64 k2, .int .i64 k3, .int .i64 st, .int .i64 rn] #[.int .i64 0, .int .i64 0, .int .i64 0, .int .i64 0, .int .i64 0, .int .i64 0, .int .i64 0, .int .i64 0, .int .i64 0, .int .i64 0, .int .i64 0] 44 44
    obtain ⟨V, hV⟩ : ∃ V, (w.alloc (.cells #[.int .i64 id, .int .i64 tn, .int .i64 pg, .int .i64 pc, .int .i64 un, .int .i64 k0, .int .i64 k1, .int .i64 k2, .int .i64 k3, .int .i64 st, .int .i64 rn] 44)).alloc (.cells #[.int .i64 0, .int .i64 0, .int .i64 0, .int .i64 0, .int .i64 0, .int .i64 0, .int .i64 0, .int .i64 0, .int .i64 0, .int .i64 0, .int .i64 0] 44) = V := ⟨_, rfl⟩
    rw [hV] at kb1 kb2 hb0
    have HV := Lib.hid hV
    have K1 := Lib.hid kb1
    have K2 := Lib.hid kb2
    have BB := Lib.hid hb0
    have HF := Lib.hid (hF.le hb0)
    clear hV kb1 kb2 hb0 hF
    obtain ⟨q0, q1, q2, q3, q4, q5, q6, q7, q8, q9, q10⟩ := K1.out.c11
    have lq := K1.out.lt
    go_enter Tryd.func60, Tryd.ntmps60
    go_upto_region 1 with fail
    rw [HV.out]
    clear HV
    go_wp2_with fail
    refine (HC.out _).mono ?_
    rw [HE.out]
    rintro e w1 ⟨rfl, b1⟩
    clear q0 q1 q2 q3 q4 q5 q6 q7 q8 q9 q10 lq
    replace K1 := Lib.hid (K1.out.below b1 K1.out.lt)
    replace K2 := Lib.hid (K2.out.below b1 K2.out.lt)
    replace BB := Lib.hid (below3 BB.out b1)
    replace HF := Lib.hid (HF.out.le b1)
    clear b1
    obtain ⟨p0, p1, p2, p3, p4, p5, p6, p7, p8, p9, p10⟩ := K2.out.c11
    obtain ⟨f0, f1, f2, f3, f4, f5, f6, f7, f8, f9, f10⟩ := K2.out.f11
    have lr := K2.out.lt
    have B3 := Lib.hid (below_set11 (g := (w.heap.size + 1)) BB.out (Nat.le_succ _) (.int .i64 0) (.int .i64 0) (.int .i64 0) (.int .i64 0) (.int .i64 0) (.int .i64 0) (.int .i64 0) (.int .i64 0) (.int .i64 0) (.int .i64 0) (.int .i64 0))
    have K3 := Lib.hid (bk_set11 K2.out (.int .i64 0) (.int .i64 0) (.int .i64 0) (.int .i64 0) (.int .i64 0) (.int .i64 0) (.int .i64 0) (.int .i64 0) (.int .i64 0) (.int .i64 0) (.int .i64 0))
    go_wp2
    obtain ⟨r0, r1, r2, r3, r4, r5, r6, r7, r8, r9, r10⟩ := K3.out.c11
    unfold set11 at r0 r1 r2 r3 r4 r5 r6 r7 r8 r9 r10
    exact bodyPost_ret (v := .tuple #[.agg #[.int .i64 0, .int .i64 0, .int .i64 0, .int .i64 0, .int .i64 0, .int .i64 0, .int .i64 0, .int .i64 0, .int .i64 0, .int .i64 0, .int .i64 0], .int .i64 1]) (by simp [results, Tryd.results60, go_sem, r0, r1, r2, r3, r4, r5, r6, r7, r8, r9, r10]) rfl ⟨rfl, B3.out⟩

/-- How many are nobody already. -/
def nk (j i : Nat) : Int := if i < j then -1 else 0
/-- What lies there between New's rounds. -/
structure NwI (w wr : World) (id tn pg : Int) (j : Nat) : Prop where
  r : Bk wr w.heap.size 44 #[.int .i64 0, .int .i64 0, .int .i64 0, .int .i64 0, .int .i64 0, .int .i64 0, .int .i64 0, .int .i64 0, .int .i64 0, .int .i64 0, .int .i64 0]
  t : Bk wr (w.heap.size + 1) 44 #[.int .i64 id, .int .i64 tn, .int .i64 pg, .int .i64 0, .int .i64 0, .int .i64 (nk j 0), .int .i64 (nk j 1), .int .i64 (nk j 2), .int .i64 (nk j 3), .int .i64 1, .int .i64 0]
  b : Below w.heap.size w wr
set_option maxHeartbeats 4000000 in
theorem new_any (id tn pg : Int) (w : World) : Calls Tryd.prog 49 #[.int .i64 id, .int .i64 tn, .int .i64 pg] w (RetB (.tuple #[.agg (tc (newR id tn pg).2), .int .i64 (newR id tn pg).1]) w) := by
  obtain ⟨kb1, kb2, hb0⟩ := lies2 w #[.int .i64 0, .int .i64 0, .int .i64 0, .int .i64 0, .int .i64 0, .int .i64 0, .int .i64 0, .int .i64 0, .int .i64 0, .int .i64 0, .int .i64 0] #[.int .i64 id, .int .i64 tn, .int .i64 pg, .int .i64 0, .int .i64 0, .int .i64 0, .int .i64 0, .int .i64 0, .int .i64 0, .int .i64 1, .int .i64 0] 44 44
  obtain ⟨V, hV⟩ : ∃ V, (w.alloc (.cells #[.int .i64 0, .int .i64 0, .int .i64 0, .int .i64 0, .int .i64 0, .int .i64 0, .int .i64 0, .int .i64 0, .int .i64 0, .int .i64 0, .int .i64 0] 44)).alloc (.cells #[.int .i64 id, .int .i64 tn, .int .i64 pg, .int .i64 0, .int .i64 0, .int .i64 0, .int .i64 0, .int .i64 0, .int .i64 0, .int .i64 1, .int .i64 0] 44) = V := ⟨_, rfl⟩
  rw [hV] at kb1 kb2 hb0
  have HV := Lib.hid hV
  have II := Lib.hid (⟨kb1, kb2, hb0⟩ : NwI w V id tn pg 0)
  clear hV kb1 kb2 hb0
  have HC := Lib.hid (fun w => chk_any (newT id tn pg) w)
  unfold tc newT at HC
  dsimp only at HC
  obtain ⟨r, hr⟩ : ∃ r, newR id tn pg = r := ⟨_, rfl⟩
  have HY : Hid (okT (newT id tn pg) → chkE (newT id tn pg) = 0 ∧ r = (0, newT id tn pg)) := Lib.hid (fun h => ⟨chk_0 h, by rw [← hr]; exact if_pos h⟩)
  have HNo : Hid (¬ okT (newT id tn pg) → chkE (newT id tn pg) = 1 ∧ r = (1, zT)) := Lib.hid (fun h => ⟨chk_1 h, by rw [← hr]; exact if_neg h⟩)
  rw [hr]
  clear hr
  go_enter Tryd.func49, Tryd.ntmps49
  go_upto_region 2 with fail
  rw [HV.out]
  clear HV
  go_wp2_with fail
  go_loopw [15] (fun t wr => ∃ j : Nat, j ≤ 4 ∧ t = .int .i64 j ∧ Hid (NwI w wr id tn pg j)) (fun t _ => 4 - (intOf t).toNat)
  case atStart => exact ⟨0, by omega, rfl, II⟩
  case round =>
    rename World => wr
    obtain ⟨j, hj, rfl, IJ⟩ := hrel
    clear II
    have hj5 : j = 0 ∨ j = 1 ∨ j = 2 ∨ j = 3 ∨ j = 4 := by omega
    clear hj
    rcases hj5 with rfl | rfl | rfl | rfl | rfl
    · have kt : Bk wr (w.heap.size + 1) 44 #[.int .i64 id, .int .i64 tn, .int .i64 pg, .int .i64 0, .int .i64 0, .int .i64 0, .int .i64 0, .int .i64 0, .int .i64 0, .int .i64 1, .int .i64 0] := IJ.out.t
      obtain ⟨q0, q1, q2, q3, q4, q5, q6, q7, q8, q9, q10⟩ := kt.c11
      obtain ⟨f0, f1, f2, f3, f4, f5, f6, f7, f8, f9, f10⟩ := kt.f11
      have lq := kt.lt
      have y1 : Bk _ (w.heap.size + 1) 44 #[.int .i64 id, .int .i64 tn, .int .i64 pg, .int .i64 0, .int .i64 0, .int .i64 (-1), .int .i64 0, .int .i64 0, .int .i64 0, .int .i64 1, .int .i64 0] := kt.set_ 5 (.int .i64 (-1))
      have y2 := IJ.out.r.far (p := ⟨w.heap.size + 1, 5, none⟩) (Nat.ne_of_lt (Nat.lt_succ_self _)) (.int .i64 (-1))
      have y3 := IJ.out.b.setCell (p := ⟨w.heap.size + 1, 5, none⟩) (Nat.le_succ _) (.int .i64 (-1))
      have I2 := Lib.hid (⟨y2, y1, y3⟩ : NwI w _ id tn pg 1)
      clear kt y1 y2 y3 IJ
      go_wp2_with fail
      go_roundw
      case rel => exact ⟨1, by omega, rfl, I2⟩
      case measure => simp [intOf]
    · have kt : Bk wr (w.heap.size + 1) 44 #[.int .i64 id, .int .i64 tn, .int .i64 pg, .int .i64 0, .int .i64 0, .int .i64 (-1), .int .i64 0, .int .i64 0, .int .i64 0, .int .i64 1, .int .i64 0] := IJ.out.t
      obtain ⟨q0, q1, q2, q3, q4, q5, q6, q7, q8, q9, q10⟩ := kt.c11
      obtain ⟨f0, f1, f2, f3, f4, f5, f6, f7, f8, f9, f10⟩ := kt.f11
      have lq := kt.lt
      have y1 : Bk _ (w.heap.size + 1) 44 #[.int .i64 id, .int .i64 tn, .int .i64 pg, .int .i64 0, .int .i64 0, .int .i64 (-1), .int .i64 (-1), .int .i64 0, .int .i64 0, .int .i64 1, .int .i64 0] := kt.set_ 6 (.int .i64 (-1))
      have y2 := IJ.out.r.far (p := ⟨w.heap.size + 1, 6, none⟩) (Nat.ne_of_lt (Nat.lt_succ_self _)) (.int .i64 (-1))
      have y3 := IJ.out.b.setCell (p := ⟨w.heap.size + 1, 6, none⟩) (Nat.le_succ _) (.int .i64 (-1))
      have I2 := Lib.hid (⟨y2, y1, y3⟩ : NwI w _ id tn pg 2)
      clear kt y1 y2 y3 IJ
      go_wp2_with fail
      go_roundw
      case rel => exact ⟨2, by omega, rfl, I2⟩
      case measure => simp [intOf]
    · have kt : Bk wr (w.heap.size + 1) 44 #[.int .i64 id, .int .i64 tn, .int .i64 pg, .int .i64 0, .int .i64 0, .int .i64 (-1), .int .i64 (-1), .int .i64 0, .int .i64 0, .int .i64 1, .int .i64 0] := IJ.out.t
      obtain ⟨q0, q1, q2, q3, q4, q5, q6, q7, q8, q9, q10⟩ := kt.c11
      obtain ⟨f0, f1, f2, f3, f4, f5, f6, f7, f8, f9, f10⟩ := kt.f11
      have lq := kt.lt
      have y1 : Bk _ (w.heap.size + 1) 44 #[.int .i64 id, .int .i64 tn, .int .i64 pg, .int .i64 0, .int .i64 0, .int .i64 (-1), .int .i64 (-1), .int .i64 (-1), .int .i64 0, .int .i64 1, .int .i64 0] := kt.set_ 7 (.int .i64 (-1))
      have y2 := IJ.out.r.far (p := ⟨w.heap.size + 1, 7, none⟩) (Nat.ne_of_lt (Nat.lt_succ_self _)) (.int .i64 (-1))
      have y3 := IJ.out.b.setCell (p := ⟨w.heap.size + 1, 7, none⟩) (Nat.le_succ _) (.int .i64 (-1))
      have I2 := Lib.hid (⟨y2, y1, y3⟩ : NwI w _ id tn pg 3)
      clear kt y1 y2 y3 IJ
      go_wp2_with fail
      go_roundw
      case rel => exact ⟨3, by omega, rfl, I2⟩
      case measure => simp [intOf]
    · have kt : Bk wr (w.heap.size + 1) 44 #[.int .i64 id, .int .i64 tn, .int .i64 pg, .int .i64 0, .int .i64 0, .int .i64 (-1), .int .i64 (-1), .int .i64 (-1), .int .i64 0, .int .i64 1, .int .i64 0] := IJ.out.t
      obtain ⟨q0, q1, q2, q3, q4, q5, q6, q7, q8, q9, q10⟩ := kt.c11
      obtain ⟨f0, f1, f2, f3, f4, f5, f6, f7, f8, f9, f10⟩ := kt.f11
      have lq := kt.lt
      have y1 : Bk _ (w.heap.size + 1) 44 #[.int .i64 id, .int .i64 tn, .int .i64 pg, .int .i64 0, .int .i64 0, .int .i64 (-1), .int .i64 (-1), .int .i64 (-1), .int .i64 (-1), .int .i64 1, .int .i64 0] := kt.set_ 8 (.int .i64 (-1))
      have y2 := IJ.out.r.far (p := ⟨w.heap.size + 1, 8, none⟩) (Nat.ne_of_lt (Nat.lt_succ_self _)) (.int .i64 (-1))
      have y3 := IJ.out.b.setCell (p := ⟨w.heap.size + 1, 8, none⟩) (Nat.le_succ _) (.int .i64 (-1))
      have I2 := Lib.hid (⟨y2, y1, y3⟩ : NwI w _ id tn pg 4)
      clear kt y1 y2 y3 IJ
      go_wp2_with fail
      go_roundw
      case rel => exact ⟨4, by omega, rfl, I2⟩
      case measure => simp [intOf]
    · have K2 : Hid (Bk wr (w.heap.size + 1) 44 #[.int .i64 id, .int .i64 tn, .int .i64 pg, .int .i64 0, .int .i64 0, .int .i64 (-1), .int .i64 (-1), .int .i64 (-1), .int .i64 (-1), .int .i64 1, .int .i64 0]) := Lib.hid IJ.out.t
      have K1 := Lib.hid IJ.out.r
      have BB := Lib.hid IJ.out.b
      clear IJ
      obtain ⟨q0, q1, q2, q3, q4, q5, q6, q7, q8, q9, q10⟩ := K2.out.c11
      have lq := K2.out.lt
      by_cases h1 : okT (newT id tn pg)
      · have HE := Lib.hid (HY.out h1)
        clear h1
        go_wp2_with fail
        refine (HC.out _).mono ?_
        rw [show chkE (Tk.mk id tn pg 0 0 (-1) (-1) (-1) (-1) 1 0) = 0 from HE.out.1]
        rintro e w1 ⟨rfl, b1⟩
        clear q0 q1 q2 q3 q4 q5 q6 q7 q8 q9 q10 lq
        replace K1 := Lib.hid (K1.out.below b1 K1.out.lt)
        replace K2 := Lib.hid (K2.out.below b1 K2.out.lt)
        replace BB := Lib.hid (below3 BB.out b1)
        clear b1
        obtain ⟨q0, q1, q2, q3, q4, q5, q6, q7, q8, q9, q10⟩ := K2.out.c11
        have lq := K2.out.lt
        obtain ⟨p0, p1, p2, p3, p4, p5, p6, p7, p8, p9, p10⟩ := K1.out.c11
        obtain ⟨f0, f1, f2, f3, f4, f5, f6, f7, f8, f9, f10⟩ := K1.out.f11
        have lr := K1.out.lt
        have B3 := Lib.hid (below_set11 (g := w.heap.size) BB.out (Nat.le_refl _) (.int .i64 id) (.int .i64 tn) (.int .i64 pg) (.int .i64 0) (.int .i64 0) (.int .i64 (-1)) (.int .i64 (-1)) (.int .i64 (-1)) (.int .i64 (-1)) (.int .i64 1) (.int .i64 0))
        have K3 := Lib.hid (bk_set11 K1.out (.int .i64 id) (.int .i64 tn) (.int .i64 pg) (.int .i64 0) (.int .i64 0) (.int .i64 (-1)) (.int .i64 (-1)) (.int .i64 (-1)) (.int .i64 (-1)) (.int .i64 1) (.int .i64 0))
        go_wp2
        obtain ⟨r0, r1, r2, r3, r4, r5, r6, r7, r8, r9, r10⟩ := K3.out.c11
        unfold set11 at r0 r1 r2 r3 r4 r5 r6 r7 r8 r9 r10
        exact bodyPost_ret (v := .tuple #[.agg #[.int .i64 id, .int .i64 tn, .int .i64 pg, .int .i64 0, .int .i64 0, .int .i64 (-1), .int .i64 (-1), .int .i64 (-1), .int .i64 (-1), .int .i64 1, .int .i64 0], .int .i64 0]) (by simp [results, Tryd.results49, go_sem, r0, r1, r2, r3, r4, r5, r6, r7, r8, r9, r10]) rfl ⟨by rw [HE.out.2]; rfl, B3.out⟩
      · have HE := Lib.hid (HNo.out h1)
        clear h1
        go_wp2_with fail
        refine (HC.out _).mono ?_
        rw [show chkE (Tk.mk id tn pg 0 0 (-1) (-1) (-1) (-1) 1 0) = 1 from HE.out.1]
        rintro e w1 ⟨rfl, b1⟩
        clear q0 q1 q2 q3 q4 q5 q6 q7 q8 q9 q10 lq
        replace K1 := Lib.hid (K1.out.below b1 K1.out.lt)
        replace K2 := Lib.hid (K2.out.below b1 K2.out.lt)
        replace BB := Lib.hid (below3 BB.out b1)
        clear b1
        obtain ⟨p0, p1, p2, p3, p4, p5, p6, p7, p8, p9, p10⟩ := K1.out.c11
        obtain ⟨f0, f1, f2, f3, f4, f5, f6, f7, f8, f9, f10⟩ := K1.out.f11
        have lr := K1.out.lt
        have B3 := Lib.hid (below_set11 (g := w.heap.size) BB.out (Nat.le_refl _) (.int .i64 0) (.int .i64 0) (.int .i64 0) (.int .i64 0) (.int .i64 0) (.int .i64 0) (.int .i64 0) (.int .i64 0) (.int .i64 0) (.int .i64 0) (.int .i64 0))
        have K3 := Lib.hid (bk_set11 K1.out (.int .i64 0) (.int .i64 0) (.int .i64 0) (.int .i64 0) (.int .i64 0) (.int .i64 0) (.int .i64 0) (.int .i64 0) (.int .i64 0) (.int .i64 0) (.int .i64 0))
        go_wp2
        obtain ⟨r0, r1, r2, r3, r4, r5, r6, r7, r8, r9, r10⟩ := K3.out.c11
        unfold set11 at r0 r1 r2 r3 r4 r5 r6 r7 r8 r9 r10
        exact bodyPost_ret (v := .tuple #[.agg #[.int .i64 0, .int .i64 0, .int .i64 0, .int .i64 0, .int .i64 0, .int .i64 0, .int .i64 0, .int .i64 0, .int .i64 0, .int .i64 0, .int .i64 0], .int .i64 1]) (by simp [results, Tryd.results49, go_sem, r0, r1, r2, r3, r4, r5, r6, r7, r8, r9, r10]) rfl ⟨by rw [HE.out.2]; rfl, B3.out⟩

end Go.Proofs.YtfhlligcbpnkkaaDoor

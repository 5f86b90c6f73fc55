/-
  Layer 13: the program's at and work.
-/
import Derived.Test.YtlbmlhcphoiaeaaDoorStp
import Derived.Test.YtlbmlhcphoiaeaaDoorSt3
import Derived.Test.YtlbmlhcphoiaeaaDoorCheck
import Derived.Test.YtlbmlhcphoiaeaaDoorFind
namespace Go.Proofs.YtlbmlhcphoiaeaaDoor
open Go.RowKit

set_option maxRecDepth 100000 in
set_option maxHeartbeats 4000000 in
theorem at_any (A : Option Addr) (n c : Nat) (p : List I3) (w : World) (hp : Prog w A n c p) (k : Nat) (hkn : k ≤ n) : Calls Tryd.prog 30 #[.slice A n c, .int .i64 k] w (RetB (vI (atN p k)) w) := by
  have HN := Lib.hid hp.1
  have HP := Lib.hid hp
  have hn := Nat.le_trans hp.2.1.1 hp.2.1.2
  clear hp
  by_cases hk : k = n
  · rw [atN_end (by rw [HN.out]; exact hk)]
    unfold vI
    dsimp only
    subst hk
    obtain ⟨kb0, hb0⟩ := lies1 w #[.int .i64 0, .int .i64 0, .int .i64 0] 37
    obtain ⟨V, hV⟩ : ∃ V, w.alloc (.cells #[.int .i64 0, .int .i64 0, .int .i64 0] 37) = V := ⟨_, rfl⟩
    rw [hV] at hb0 kb0
    have HV := Lib.hid hV
    have BB := Lib.hid hb0
    have Kr := Lib.hid kb0
    have HBr : Hid (w.heap.size ≤ w.heap.size) := Lib.hid (by omega)
    clear hV hb0 kb0
    go_enter Tryd.func30, Tryd.ntmps30
    go_upto_region 1 with fail
    rw [HV.out]
    clear HV
    obtain ⟨qr_0, qr_1, qr_2⟩ := Kr.out.c3
    have lr := Kr.out.lt
    obtain ⟨fr_0, fr_1, fr_2⟩ := Kr.out.f3
    have B_r := Lib.hid (below_set3 (g := w.heap.size) BB.out HBr.out (.int .i64 9) (.int .i64 0) (.int .i64 0))
    have S_r := Lib.hid (bk_set3 Kr.out (.int .i64 9) (.int .i64 0) (.int .i64 0))
    go_wp2
    obtain ⟨rr_0, rr_1, rr_2⟩ := S_r.out.c3
    unfold set3 at rr_0 rr_1 rr_2
    exact bodyPost_ret (v := .agg #[.int .i64 9, .int .i64 0, .int .i64 0]) (by simp [results, Tryd.results30, go_sem, rr_0, rr_1, rr_2]) rfl ⟨rfl, B_r.out⟩
  · rw [atN_in (by rw [HN.out]; omega)]
    unfold vI
    dsimp only
    obtain ⟨b, o, rfl, hbl, g0, g1, g2⟩ := HP.out.at_ (j := k) (by omega)
    generalize jO p k = x0 at g0 ⊢
    generalize jA p k = x1 at g1 ⊢
    generalize jB p k = x2 at g2 ⊢
    have P0 := g0
    have P1 := g1
    have P2 := g2
    obtain ⟨kb0, hb0⟩ := lies1 w #[.int .i64 0, .int .i64 0, .int .i64 0] 37
    obtain ⟨V, hV⟩ : ∃ V, w.alloc (.cells #[.int .i64 0, .int .i64 0, .int .i64 0] 37) = V := ⟨_, rfl⟩
    rw [hV] at hb0 kb0
    have HV := Lib.hid hV
    have BB := Lib.hid hb0
    have Kr := Lib.hid kb0
    have HBr : Hid (w.heap.size ≤ w.heap.size) := Lib.hid (by omega)
    clear hV hb0 kb0
    go_enter Tryd.func30, Tryd.ntmps30
    go_upto_region 1 with fail
    rw [HV.out]
    clear HV
    obtain ⟨d0, d1, d2⟩ : V.cell? ⟨b, o + k * 3, none⟩ = _ ∧ V.cell? ⟨b, o + k * 3 + 1, none⟩ = _ ∧ V.cell? ⟨b, o + k * 3 + 2, none⟩ = _ := ⟨(BB.out.cell (p := ⟨b, _, none⟩) hbl).trans g0, (BB.out.cell (p := ⟨b, _, none⟩) hbl).trans g1, (BB.out.cell (p := ⟨b, _, none⟩) hbl).trans g2⟩
    have hbl2 : b < V.heap.size := Nat.lt_of_lt_of_le hbl BB.out.size
    have hne : ¬ (k : Int) = n := by omega
    obtain ⟨qr_0, qr_1, qr_2⟩ := Kr.out.c3
    have lr := Kr.out.lt
    obtain ⟨fr_0, fr_1, fr_2⟩ := Kr.out.f3
    have B_r := Lib.hid (below_set3 (g := w.heap.size) BB.out HBr.out (.int .i64 x0) (.int .i64 x1) (.int .i64 x2))
    have S_r := Lib.hid (bk_set3 Kr.out (.int .i64 x0) (.int .i64 x1) (.int .i64 x2))
    go_wp2
    obtain ⟨rr_0, rr_1, rr_2⟩ := S_r.out.c3
    unfold set3 at rr_0 rr_1 rr_2
    exact bodyPost_ret (v := .agg #[.int .i64 x0, .int .i64 x1, .int .i64 x2]) (by simp [results, Tryd.results30, go_sem, rr_0, rr_1, rr_2]) rfl ⟨rfl, B_r.out⟩

set_option maxRecDepth 100000 in
set_option maxHeartbeats 4000000 in
theorem work_any (t : Tk) (u : Int) (w : World) (h0 : 0 ≤ t.un) (h1 : t.un < 100) (h2 : 0 ≤ t.pc) (h3 : t.pc < 33) : Calls Tryd.prog 37 #[.agg (tc t), .int .i64 u] w (RetB (.agg (tc (goW t u))) w) := by
  obtain ⟨id, tn, pg, pc, un, k0, k1, k2, k3, st, rn⟩ := t
  dsimp only at h0 h1 h2 h3
  unfold tc goW
  dsimp only
  by_cases hk : un + 1 = u
  · rw [if_pos hk]
    dsimp only
    subst hk
    obtain ⟨kb0, kb1, hb0⟩ := lies2 w #[.int .i64 id, .int .i64 tn, .int .i64 pg, .int .i64 pc, .int .i64 un, .int .i64 k0, .int .i64 k1, .int .i64 k2, .int .i64 k3, .int .i64 st, .int .i64 rn] #[.int .i64 0, .int .i64 0, .int .i64 0, .int .i64 0, .int .i64 0, .int .i64 0, .int .i64 0, .int .i64 0, .int .i64 0, .int .i64 0, .int .i64 0] 24 24
    obtain ⟨V, hV⟩ : ∃ V, (w.alloc (.cells #[.int .i64 id, .int .i64 tn, .int .i64 pg, .int .i64 pc, .int .i64 un, .int .i64 k0, .int .i64 k1, .int .i64 k2, .int .i64 k3, .int .i64 st, .int .i64 rn] 24)).alloc (.cells #[.int .i64 0, .int .i64 0, .int .i64 0, .int .i64 0, .int .i64 0, .int .i64 0, .int .i64 0, .int .i64 0, .int .i64 0, .int .i64 0, .int .i64 0] 24) = V := ⟨_, rfl⟩
    rw [hV] at hb0 kb0 kb1
    have HV := Lib.hid hV
    have BB := Lib.hid hb0
    have Kt := Lib.hid kb0
    have HBt : Hid (w.heap.size ≤ w.heap.size) := Lib.hid (by omega)
    have Kr := Lib.hid kb1
    have HBr : Hid (w.heap.size ≤ (w.heap.size + 1)) := Lib.hid (by omega)
    have Nt_r : Hid (w.heap.size ≠ (w.heap.size + 1)) := Lib.hid (by omega)
    clear hV hb0 kb0 kb1
    go_enter Tryd.func37, Tryd.ntmps37
    go_upto_region 1 with fail
    rw [HV.out]
    clear HV
    obtain ⟨qt_0, qt_1, qt_2, qt_3, qt_4, qt_5, qt_6, qt_7, qt_8, qt_9, qt_10⟩ := Kt.out.c11
    have lt := Kt.out.lt
    obtain ⟨ft_0, ft_1, ft_2, ft_3, ft_4, ft_5, ft_6, ft_7, ft_8, ft_9, ft_10⟩ := Kt.out.f11
    have x0 : Bk _ w.heap.size 24 #[.int .i64 id, .int .i64 tn, .int .i64 pg, .int .i64 pc, .int .i64 (un + 1), .int .i64 k0, .int .i64 k1, .int .i64 k2, .int .i64 k3, .int .i64 st, .int .i64 rn] := Kt.out.set_ 4 (.int .i64 (un + 1))
    have x_r := Kr.out.far (p := ⟨w.heap.size, 4, none⟩) Nt_r.out.symm (.int .i64 (un + 1))
    have xb := BB.out.setCell (p := ⟨w.heap.size, 4, none⟩) HBt.out (.int .i64 (un + 1))
    obtain ⟨X1, hX⟩ : ∃ X, World.setCell V ⟨w.heap.size, 4, none⟩ (.int .i64 (un + 1)) = X := ⟨_, rfl⟩
    rw [hX] at x0 xb x_r
    have HX := Lib.hid hX
    replace Kt := Lib.hid x0
    replace BB := Lib.hid xb
    replace Kr := Lib.hid x_r
    clear hX x0 xb x_r
    go_upto_region 2 with fail
    rw [HX.out]
    clear HX
    clear qt_0 qt_1 qt_2 qt_3 qt_4 qt_5 qt_6 qt_7 qt_8 qt_9 qt_10 lt ft_0 ft_1 ft_2 ft_3 ft_4 ft_5 ft_6 ft_7 ft_8 ft_9 ft_10
    obtain ⟨qt_0, qt_1, qt_2, qt_3, qt_4, qt_5, qt_6, qt_7, qt_8, qt_9, qt_10⟩ := Kt.out.c11
    have lt := Kt.out.lt
    obtain ⟨ft_0, ft_1, ft_2, ft_3, ft_4, ft_5, ft_6, ft_7, ft_8, ft_9, ft_10⟩ := Kt.out.f11
    have x0 : Bk _ w.heap.size 24 #[.int .i64 id, .int .i64 tn, .int .i64 pg, .int .i64 pc, .int .i64 0, .int .i64 k0, .int .i64 k1, .int .i64 k2, .int .i64 k3, .int .i64 st, .int .i64 rn] := Kt.out.set_ 4 (.int .i64 0)
    have x_r := Kr.out.far (p := ⟨w.heap.size, 4, none⟩) Nt_r.out.symm (.int .i64 0)
    have xb := BB.out.setCell (p := ⟨w.heap.size, 4, none⟩) HBt.out (.int .i64 0)
    obtain ⟨X2, hX⟩ : ∃ X, World.setCell X1 ⟨w.heap.size, 4, none⟩ (.int .i64 0) = X := ⟨_, rfl⟩
    rw [hX] at x0 xb x_r
    have HX := Lib.hid hX
    replace Kt := Lib.hid x0
    replace BB := Lib.hid xb
    replace Kr := Lib.hid x_r
    clear hX x0 xb x_r
    go_upto_region 4 with fail
    rw [HX.out]
    clear HX
    clear qt_0 qt_1 qt_2 qt_3 qt_4 qt_5 qt_6 qt_7 qt_8 qt_9 qt_10 lt ft_0 ft_1 ft_2 ft_3 ft_4 ft_5 ft_6 ft_7 ft_8 ft_9 ft_10
    obtain ⟨qt_0, qt_1, qt_2, qt_3, qt_4, qt_5, qt_6, qt_7, qt_8, qt_9, qt_10⟩ := Kt.out.c11
    have lt := Kt.out.lt
    obtain ⟨ft_0, ft_1, ft_2, ft_3, ft_4, ft_5, ft_6, ft_7, ft_8, ft_9, ft_10⟩ := Kt.out.f11
    have x0 : Bk _ w.heap.size 24 #[.int .i64 id, .int .i64 tn, .int .i64 pg, .int .i64 (pc + 1), .int .i64 0, .int .i64 k0, .int .i64 k1, .int .i64 k2, .int .i64 k3, .int .i64 st, .int .i64 rn] := Kt.out.set_ 3 (.int .i64 (pc + 1))
    have x_r := Kr.out.far (p := ⟨w.heap.size, 3, none⟩) Nt_r.out.symm (.int .i64 (pc + 1))
    have xb := BB.out.setCell (p := ⟨w.heap.size, 3, none⟩) HBt.out (.int .i64 (pc + 1))
    obtain ⟨X3, hX⟩ : ∃ X, World.setCell X2 ⟨w.heap.size, 3, none⟩ (.int .i64 (pc + 1)) = X := ⟨_, rfl⟩
    rw [hX] at x0 xb x_r
    have HX := Lib.hid hX
    replace Kt := Lib.hid x0
    replace BB := Lib.hid xb
    replace Kr := Lib.hid x_r
    clear hX x0 xb x_r
    go_upto_region 5 with fail
    rw [HX.out]
    clear HX
    clear qt_0 qt_1 qt_2 qt_3 qt_4 qt_5 qt_6 qt_7 qt_8 qt_9 qt_10 lt ft_0 ft_1 ft_2 ft_3 ft_4 ft_5 ft_6 ft_7 ft_8 ft_9 ft_10
    obtain ⟨qt_0, qt_1, qt_2, qt_3, qt_4, qt_5, qt_6, qt_7, qt_8, qt_9, qt_10⟩ := Kt.out.c11
    have lt := Kt.out.lt
    obtain ⟨qr_0, qr_1, qr_2, qr_3, qr_4, qr_5, qr_6, qr_7, qr_8, qr_9, qr_10⟩ := Kr.out.c11
    have lr := Kr.out.lt
    obtain ⟨fr_0, fr_1, fr_2, fr_3, fr_4, fr_5, fr_6, fr_7, fr_8, fr_9, fr_10⟩ := Kr.out.f11
    have B_r := Lib.hid (below_set11 (g := (w.heap.size + 1)) BB.out HBr.out (.int .i64 id) (.int .i64 tn) (.int .i64 pg) (.int .i64 (pc + 1)) (.int .i64 0) (.int .i64 k0) (.int .i64 k1) (.int .i64 k2) (.int .i64 k3) (.int .i64 st) (.int .i64 rn))
    have S_r := Lib.hid (bk_set11 Kr.out (.int .i64 id) (.int .i64 tn) (.int .i64 pg) (.int .i64 (pc + 1)) (.int .i64 0) (.int .i64 k0) (.int .i64 k1) (.int .i64 k2) (.int .i64 k3) (.int .i64 st) (.int .i64 rn))
    go_wp2
    obtain ⟨rr_0, rr_1, rr_2, rr_3, rr_4, rr_5, rr_6, rr_7, rr_8, rr_9, rr_10⟩ := S_r.out.c11
    unfold set11 at rr_0 rr_1 rr_2 rr_3 rr_4 rr_5 rr_6 rr_7 rr_8 rr_9 rr_10
    exact bodyPost_ret (v := .agg #[.int .i64 id, .int .i64 tn, .int .i64 pg, .int .i64 (pc + 1), .int .i64 0, .int .i64 k0, .int .i64 k1, .int .i64 k2, .int .i64 k3, .int .i64 st, .int .i64 rn]) (by simp [results, Tryd.results37, go_sem, rr_0, rr_1, rr_2, rr_3, rr_4, rr_5, rr_6, rr_7, rr_8, rr_9, rr_10]) rfl ⟨rfl, B_r.out⟩
  · rw [if_neg hk]
    dsimp only
    have hk2 : (un + 1 == u) = false := by simpa using hk
    clear hk
    obtain ⟨kb0, kb1, hb0⟩ := lies2 w #[.int .i64 id, .int .i64 tn, .int .i64 pg, .int .i64 pc, .int .i64 un, .int .i64 k0, .int .i64 k1, .int .i64 k2, .int .i64 k3, .int .i64 st, .int .i64 rn] #[.int .i64 0, .int .i64 0, .int .i64 0, .int .i64 0, .int .i64 0, .int .i64 0, .int .i64 0, .int .i64 0, .int .i64 0, .int .i64 0, .int .i64 0] 24 24
    obtain ⟨V, hV⟩ : ∃ V, (w.alloc (.cells #[.int .i64 id, .int .i64 tn, .int .i64 pg, .int .i64 pc, .int .i64 un, .int .i64 k0, .int .i64 k1, .int .i64 k2, .int .i64 k3, .int .i64 st, .int .i64 rn] 24)).alloc (.cells #[.int .i64 0, .int .i64 0, .int .i64 0, .int .i64 0, .int .i64 0, .int .i64 0, .int .i64 0, .int .i64 0, .int .i64 0, .int .i64 0, .int .i64 0] 24) = V := ⟨_, rfl⟩
    rw [hV] at hb0 kb0 kb1
    have HV := Lib.hid hV
    have BB := Lib.hid hb0
    have Kt := Lib.hid kb0
    have HBt : Hid (w.heap.size ≤ w.heap.size) := Lib.hid (by omega)
    have Kr := Lib.hid kb1
    have HBr : Hid (w.heap.size ≤ (w.heap.size + 1)) := Lib.hid (by omega)
    have Nt_r : Hid (w.heap.size ≠ (w.heap.size + 1)) := Lib.hid (by omega)
    clear hV hb0 kb0 kb1
    go_enter Tryd.func37, Tryd.ntmps37
    go_upto_region 1 with fail
    rw [HV.out]
    clear HV
    obtain ⟨qt_0, qt_1, qt_2, qt_3, qt_4, qt_5, qt_6, qt_7, qt_8, qt_9, qt_10⟩ := Kt.out.c11
    have lt := Kt.out.lt
    obtain ⟨ft_0, ft_1, ft_2, ft_3, ft_4, ft_5, ft_6, ft_7, ft_8, ft_9, ft_10⟩ := Kt.out.f11
    have x0 : Bk _ w.heap.size 24 #[.int .i64 id, .int .i64 tn, .int .i64 pg, .int .i64 pc, .int .i64 (un + 1), .int .i64 k0, .int .i64 k1, .int .i64 k2, .int .i64 k3, .int .i64 st, .int .i64 rn] := Kt.out.set_ 4 (.int .i64 (un + 1))
    have x_r := Kr.out.far (p := ⟨w.heap.size, 4, none⟩) Nt_r.out.symm (.int .i64 (un + 1))
    have xb := BB.out.setCell (p := ⟨w.heap.size, 4, none⟩) HBt.out (.int .i64 (un + 1))
    obtain ⟨X1, hX⟩ : ∃ X, World.setCell V ⟨w.heap.size, 4, none⟩ (.int .i64 (un + 1)) = X := ⟨_, rfl⟩
    rw [hX] at x0 xb x_r
    have HX := Lib.hid hX
    replace Kt := Lib.hid x0
    replace BB := Lib.hid xb
    replace Kr := Lib.hid x_r
    clear hX x0 xb x_r
    go_upto_region 2 with fail
    rw [HX.out]
    clear HX
    clear qt_0 qt_1 qt_2 qt_3 qt_4 qt_5 qt_6 qt_7 qt_8 qt_9 qt_10 lt ft_0 ft_1 ft_2 ft_3 ft_4 ft_5 ft_6 ft_7 ft_8 ft_9 ft_10
    obtain ⟨qt_0, qt_1, qt_2, qt_3, qt_4, qt_5, qt_6, qt_7, qt_8, qt_9, qt_10⟩ := Kt.out.c11
    have lt := Kt.out.lt
    obtain ⟨qr_0, qr_1, qr_2, qr_3, qr_4, qr_5, qr_6, qr_7, qr_8, qr_9, qr_10⟩ := Kr.out.c11
    have lr := Kr.out.lt
    obtain ⟨fr_0, fr_1, fr_2, fr_3, fr_4, fr_5, fr_6, fr_7, fr_8, fr_9, fr_10⟩ := Kr.out.f11
    have B_r := Lib.hid (below_set11 (g := (w.heap.size + 1)) BB.out HBr.out (.int .i64 id) (.int .i64 tn) (.int .i64 pg) (.int .i64 pc) (.int .i64 (un + 1)) (.int .i64 k0) (.int .i64 k1) (.int .i64 k2) (.int .i64 k3) (.int .i64 st) (.int .i64 rn))
    have S_r := Lib.hid (bk_set11 Kr.out (.int .i64 id) (.int .i64 tn) (.int .i64 pg) (.int .i64 pc) (.int .i64 (un + 1)) (.int .i64 k0) (.int .i64 k1) (.int .i64 k2) (.int .i64 k3) (.int .i64 st) (.int .i64 rn))
    go_wp2
    obtain ⟨rr_0, rr_1, rr_2, rr_3, rr_4, rr_5, rr_6, rr_7, rr_8, rr_9, rr_10⟩ := S_r.out.c11
    unfold set11 at rr_0 rr_1 rr_2 rr_3 rr_4 rr_5 rr_6 rr_7 rr_8 rr_9 rr_10
    exact bodyPost_ret (v := .agg #[.int .i64 id, .int .i64 tn, .int .i64 pg, .int .i64 pc, .int .i64 (un + 1), .int .i64 k0, .int .i64 k1, .int .i64 k2, .int .i64 k3, .int .i64 st, .int .i64 rn]) (by simp [results, Tryd.results37, go_sem, rr_0, rr_1, rr_2, rr_3, rr_4, rr_5, rr_6, rr_7, rr_8, rr_9, rr_10]) rfl ⟨rfl, B_r.out⟩

end Go.Proofs.YtlbmlhcphoiaeaaDoor

import Derived.Test.YtfhlligcbpnkkaaDoorMg6

/-
  Layer 12: the document's New, Move and Keep.
-/
namespace Go.Proofs.YtfhlligcbpnkkaaDoor
open Go.RowKit

set_option maxHeartbeats 4000000 in
theorem rnew_any (id tn pg : Int) (w : World) : Calls Tryd.prog 36 #[.int .i64 id, .int .i64 tn, .int .i64 pg] w (RetB (.tuple #[.agg (tc (newR id tn pg).2), .int .i64 (newR id tn pg).1]) w) := by
  obtain ⟨kb1, kb2, hb0⟩ := lies2 w #[.int .i64 0, .int .i64 0, .int .i64 0, .int .i64 0, .int .i64 0, .int .i64 0, .int .i64 0, .int .i64 0, .int .i64 0, .int .i64 0, .int .i64 0] #[.int .i64 id, .int .i64 tn, .int .i64 pg, .int .i64 0, .int .i64 0, .int .i64 0, .int .i64 0, .int .i64 0, .int .i64 0, .int .i64 1, .int .i64 0] 44 44
  obtain ⟨V, hV⟩ : ∃ V, (w.alloc (.cells #[.int .i64 0, .int .i64 0, .int .i64 0, .int .i64 0, .int .i64 0, .int .i64 0, .int .i64 0, .int .i64 0, .int .i64 0, .int .i64 0, .int .i64 0] 44)).alloc (.cells #[.int .i64 id, .int .i64 tn, .int .i64 pg, .int .i64 0, .int .i64 0, .int .i64 0, .int .i64 0, .int .i64 0, .int .i64 0, .int .i64 1, .int .i64 0] 44) = V := ⟨_, rfl⟩
  rw [hV] at kb1 kb2 hb0
  have HV := Lib.hid hV
  have II := Lib.hid (⟨kb1, kb2, hb0⟩ : NwI w V id tn pg 0)
  clear hV kb1 kb2 hb0
  have HC := Lib.hid (fun w => rchk_any (newT id tn pg) w)
  unfold tc newT at HC
  dsimp only at HC
  obtain ⟨r, hr⟩ : ∃ r, newR id tn pg = r := ⟨_, rfl⟩
  have HY : Hid (okT (newT id tn pg) → chkE (newT id tn pg) = 0 ∧ r = (0, newT id tn pg)) := Lib.hid (fun h => ⟨chk_0 h, by rw [← hr]; exact if_pos h⟩)
  have HNo : Hid (¬ okT (newT id tn pg) → chkE (newT id tn pg) = 1 ∧ r = (1, zT)) := Lib.hid (fun h => ⟨chk_1 h, by rw [← hr]; exact if_neg h⟩)
  rw [hr]
  clear hr
  go_enter Tryd.func36, Tryd.ntmps36
  go_upto_region 2 with fail
  rw [HV.out]
  clear HV
  go_wp2_with fail
  go_loopw [14] (fun t wr => ∃ j : Nat, j ≤ 4 ∧ t = .int .i64 j ∧ Hid (NwI w wr id tn pg j)) (fun t _ => 4 - (intOf t).toNat)
  case atStart => exact ⟨0, by omega, rfl, II⟩
  case round =>
    rename World => wr
    obtain ⟨j, hj, rfl, IJ⟩ := hrel
    clear II
    have hj5 : j = 0 ∨ j = 1 ∨ j = 2 ∨ j = 3 ∨ j = 4 := by omega
    clear hj
    rcases hj5 with rfl | rfl | rfl | rfl | rfl
    · have kt : Bk wr (w.heap.size + 1) 44 #[.int .i64 id, .int .i64 tn, .int .i64 pg, .int .i64 0, .int .i64 0, .int .i64 0, .int .i64 0, .int .i64 0, .int .i64 0, .int .i64 1, .int .i64 0] := IJ.out.t
      obtain ⟨q0, q1, q2, q3, q4, q5, q6, q7, q8, q9, q10⟩ := kt.c11
      obtain ⟨f0, f1, f2, f3, f4, f5, f6, f7, f8, f9, f10⟩ := kt.f11
      have lq := kt.lt
      have y1 : Bk _ (w.heap.size + 1) 44 #[.int .i64 id, .int .i64 tn, .int .i64 pg, .int .i64 0, .int .i64 0, .int .i64 (-1), .int .i64 0, .int .i64 0, .int .i64 0, .int .i64 1, .int .i64 0] := kt.set_ 5 (.int .i64 (-1))
      have y2 := IJ.out.r.far (p := ⟨w.heap.size + 1, 5, none⟩) (Nat.ne_of_lt (Nat.lt_succ_self _)) (.int .i64 (-1))
      have y3 := IJ.out.b.setCell (p := ⟨w.heap.size + 1, 5, none⟩) (Nat.le_succ _) (.int .i64 (-1))
      have I2 := Lib.hid (⟨y2, y1, y3⟩ : NwI w _ id tn pg 1)
      clear kt y1 y2 y3 IJ
      go_wp2_with fail
      go_roundw
      case rel => exact ⟨1, by omega, rfl, I2⟩
      case measure => simp [intOf]
    · have kt : Bk wr (w.heap.size + 1) 44 #[.int .i64 id, .int .i64 tn, .int .i64 pg, .int .i64 0, .int .i64 0, .int .i64 (-1), .int .i64 0, .int .i64 0, .int .i64 0, .int .i64 1, .int .i64 0] := IJ.out.t
      obtain ⟨q0, q1, q2, q3, q4, q5, q6, q7, q8, q9, q10⟩ := kt.c11
      obtain ⟨f0, f1, f2, f3, f4, f5, f6, f7, f8, f9, f10⟩ := kt.f11
      have lq := kt.lt
      have y1 : Bk _ (w.heap.size + 1) 44 #[.int .i64 id, .int .i64 tn, .int .i64 pg, .int .i64 0, .int .i64 0, .int .i64 (-1), .int .i64 (-1), .int .i64 0, .int .i64 0, .int .i64 1, .int .i64 0] := kt.set_ 6 (.int .i64 (-1))
      have y2 := IJ.out.r.far (p := ⟨w.heap.size + 1, 6, none⟩) (Nat.ne_of_lt (Nat.lt_succ_self _)) (.int .i64 (-1))
      have y3 := IJ.out.b.setCell (p := ⟨w.heap.size + 1, 6, none⟩) (Nat.le_succ _) (.int .i64 (-1))
      have I2 := Lib.hid (⟨y2, y1, y3⟩ : NwI w _ id tn pg 2)
      clear kt y1 y2 y3 IJ
      go_wp2_with fail
      go_roundw
      case rel => exact ⟨2, by omega, rfl, I2⟩
      case measure => simp [intOf]
    · have kt : Bk wr (w.heap.size + 1) 44 #[.int .i64 id, .int .i64 tn, .int .i64 pg, .int .i64 0, .int .i64 0, .int .i64 (-1), .int .i64 (-1), .int .i64 0, .int .i64 0, .int .i64 1, .int .i64 0] := IJ.out.t
      obtain ⟨q0, q1, q2, q3, q4, q5, q6, q7, q8, q9, q10⟩ := kt.c11
      obtain ⟨f0, f1, f2, f3, f4, f5, f6, f7, f8, f9, f10⟩ := kt.f11
      have lq := kt.lt
      have y1 : Bk _ (w.heap.size + 1) 44 #[.int .i64 id, .int .i64 tn, .int .i64 pg, .int .i64 0, .int .i64 0, .int .i64 (-1), .int .i64 (-1), .int .i64 (-1), .int .i64 0, .int .i64 1, .int .i64 0] := kt.set_ 7 (.int .i64 (-1))
      have y2 := IJ.out.r.far (p := ⟨w.heap.size + 1, 7, none⟩) (Nat.ne_of_lt (Nat.lt_succ_self _)) (.int .i64 (-1))
      have y3 := IJ.out.b.setCell (p := ⟨w.heap.size + 1, 7, none⟩) (Nat.le_succ _) (.int .i64 (-1))
      have I2 := Lib.hid (⟨y2, y1, y3⟩ : NwI w _ id tn pg 3)
      clear kt y1 y2 y3 IJ
      go_wp2_with fail
      go_roundw
      case rel => exact ⟨3, by omega, rfl, I2⟩
      case measure => simp [intOf]
    · have kt : Bk wr (w.heap.size + 1) 44 #[.int .i64 id, .int .i64 tn, .int .i64 pg, .int .i64 0, .int .i64 0, .int .i64 (-1), .int .i64 (-1), .int .i64 (-1), .int .i64 0, .int .i64 1, .int .i64 0] := IJ.out.t
      obtain ⟨q0, q1, q2, q3, q4, q5, q6, q7, q8, q9, q10⟩ := kt.c11
      obtain ⟨f0, f1, f2, f3, f4, f5, f6, f7, f8, f9, f10⟩ := kt.f11
      have lq := kt.lt
      have y1 : Bk _ (w.heap.size + 1) 44 #[.int .i64 id, .int .i64 tn, .int .i64 pg, .int .i64 0, .int .i64 0, .int .i64 (-1), .int .i64 (-1), .int .i64 (-1), .int .i64 (-1), .int .i64 1, .int .i64 0] := kt.set_ 8 (.int .i64 (-1))
      have y2 := IJ.out.r.far (p := ⟨w.heap.size + 1, 8, none⟩) (Nat.ne_of_lt (Nat.lt_succ_self _)) (.int .i64 (-1))
      have y3 := IJ.out.b.setCell (p := ⟨w.heap.size + 1, 8, none⟩) (Nat.le_succ _) (.int .i64 (-1))
      have I2 := Lib.hid (⟨y2, y1, y3⟩ : NwI w _ id tn pg 4)
      clear kt y1 y2 y3 IJ
      go_wp2_with fail
      go_roundw
      case rel => exact ⟨4, by omega, rfl, I2⟩
      case measure => simp [intOf]
    · have K2 : Hid (Bk wr (w.heap.size + 1) 44 #[.int .i64 id, .int .i64 tn, .int .i64 pg, .int .i64 0, .int .i64 0, .int .i64 (-1), .int .i64 (-1), .int .i64 (-1), .int .i64 (-1), .int .i64 1, .int .i64 0]) := Lib.hid IJ.out.t
      have K1 := Lib.hid IJ.out.r
      have BB := Lib.hid IJ.out.b
      clear IJ
      obtain ⟨q0, q1, q2, q3, q4, q5, q6, q7, q8, q9, q10⟩ := K2.out.c11
      have lq := K2.out.lt
      by_cases h1 : okT (newT id tn pg)
      · have HE := Lib.hid (HY.out h1)
        clear h1
        go_wp2_with fail
        refine (HC.out _).mono ?_
        rw [show chkE (Tk.mk id tn pg 0 0 (-1) (-1) (-1) (-1) 1 0) = 0 from HE.out.1]
        rintro e w1 ⟨rfl, b1⟩
        clear q0 q1 q2 q3 q4 q5 q6 q7 q8 q9 q10 lq
        replace K1 := Lib.hid (K1.out.below b1 K1.out.lt)
        replace K2 := Lib.hid (K2.out.below b1 K2.out.lt)
        replace BB := Lib.hid (below3 BB.out b1)
        clear b1
        obtain ⟨q0, q1, q2, q3, q4, q5, q6, q7, q8, q9, q10⟩ := K2.out.c11
        have lq := K2.out.lt
        obtain ⟨p0, p1, p2, p3, p4, p5, p6, p7, p8, p9, p10⟩ := K1.out.c11
        obtain ⟨f0, f1, f2, f3, f4, f5, f6, f7, f8, f9, f10⟩ := K1.out.f11
        have lr := K1.out.lt
        have B3 := Lib.hid (below_set11 (g := w.heap.size) BB.out (Nat.le_refl _) (.int .i64 id) (.int .i64 tn) (.int .i64 pg) (.int .i64 0) (.int .i64 0) (.int .i64 (-1)) (.int .i64 (-1)) (.int .i64 (-1)) (.int .i64 (-1)) (.int .i64 1) (.int .i64 0))
        have K3 := Lib.hid (bk_set11 K1.out (.int .i64 id) (.int .i64 tn) (.int .i64 pg) (.int .i64 0) (.int .i64 0) (.int .i64 (-1)) (.int .i64 (-1)) (.int .i64 (-1)) (.int .i64 (-1)) (.int .i64 1) (.int .i64 0))
        go_wp2
        obtain ⟨r0, r1, r2, r3, r4, r5, r6, r7, r8, r9, r10⟩ := K3.out.c11
        unfold set11 at r0 r1 r2 r3 r4 r5 r6 r7 r8 r9 r10
        exact bodyPost_ret (v := .tuple #[.agg #[.int .i64 id, .int .i64 tn, .int .i64 pg, .int .i64 0, .int .i64 0, .int .i64 (-1), .int .i64 (-1), .int .i64 (-1), .int .i64 (-1), .int .i64 1, .int .i64 0], .int .i64 0]) (by simp [results, Tryd.results36, go_sem, r0, r1, r2, r3, r4, r5, r6, r7, r8, r9, r10]) rfl ⟨by rw [HE.out.2]; rfl, B3.out⟩
      · have HE := Lib.hid (HNo.out h1)
        clear h1
        go_wp2_with fail
        refine (HC.out _).mono ?_
        rw [show chkE (Tk.mk id tn pg 0 0 (-1) (-1) (-1) (-1) 1 0) = 1 from HE.out.1]
        rintro e w1 ⟨rfl, b1⟩
        clear q0 q1 q2 q3 q4 q5 q6 q7 q8 q9 q10 lq
        replace K1 := Lib.hid (K1.out.below b1 K1.out.lt)
        replace K2 := Lib.hid (K2.out.below b1 K2.out.lt)
        replace BB := Lib.hid (below3 BB.out b1)
        clear b1
        obtain ⟨p0, p1, p2, p3, p4, p5, p6, p7, p8, p9, p10⟩ := K1.out.c11
        obtain ⟨f0, f1, f2, f3, f4, f5, f6, f7, f8, f9, f10⟩ := K1.out.f11
        have lr := K1.out.lt
        have B3 := Lib.hid (below_set11 (g := w.heap.size) BB.out (Nat.le_refl _) (.int .i64 0) (.int .i64 0) (.int .i64 0) (.int .i64 0) (.int .i64 0) (.int .i64 0) (.int .i64 0) (.int .i64 0) (.int .i64 0) (.int .i64 0) (.int .i64 0))
        have K3 := Lib.hid (bk_set11 K1.out (.int .i64 0) (.int .i64 0) (.int .i64 0) (.int .i64 0) (.int .i64 0) (.int .i64 0) (.int .i64 0) (.int .i64 0) (.int .i64 0) (.int .i64 0) (.int .i64 0))
        go_wp2
        obtain ⟨r0, r1, r2, r3, r4, r5, r6, r7, r8, r9, r10⟩ := K3.out.c11
        unfold set11 at r0 r1 r2 r3 r4 r5 r6 r7 r8 r9 r10
        exact bodyPost_ret (v := .tuple #[.agg #[.int .i64 0, .int .i64 0, .int .i64 0, .int .i64 0, .int .i64 0, .int .i64 0, .int .i64 0, .int .i64 0, .int .i64 0, .int .i64 0, .int .i64 0], .int .i64 1]) (by simp [results, Tryd.results36, go_sem, r0, r1, r2, r3, r4, r5, r6, r7, r8, r9, r10]) rfl ⟨by rw [HE.out.2]; rfl, B3.out⟩

end Go.Proofs.YtfhlligcbpnkkaaDoor

/-
  Layer 13: whether a task fits a program: the program's and the document's.
-/
namespace Go.Proofs.YtfhlligcbpnkkaaDoor
open Go.RowKit

theorem Below.drewN_ {B : Nat} {w w' : World} (h : Below B w w') (n : Nat) : Below B w (w'.drewN n) := ⟨h.os, h.tape, h.output, h.size, h.block⟩

theorem fit_last {t : Tk} {p : List I3} {k : Nat} (h1 : okT t) (h2 : okP p) (hk : t.pc = k) (h3 : k ≤ p.length) : okFB t p = ((t.un == 0) || (((atN p k).1 == 1) && decide (t.un < (atN p k).2.1))) := by
  rw [Bool.eq_iff_iff, okFB_iff]
  unfold okF
  rw [hk, Int.toNat_natCast]
  simp only [Bool.or_eq_true, Bool.and_eq_true, beq_iff_eq, decide_eq_true_eq]
  by_cases e : k = p.length
  · rw [atN_end e]
    simp [h1, h2, e]
  · rw [atN_in (by omega)]
    simp [h1, h2, h3, show (k : Int) < p.length by omega]

set_option maxRecDepth 100000 in
set_option maxHeartbeats 4000000 in
theorem fits_any (t : Tk) (A : Option Addr) (n c : Nat) (p : List I3) (w : World) (hp : Prog w A n c p) : Calls Tryd.prog 64 #[.agg (tc t), .slice A n c] w (RetB (.bool (okFB t p)) w) := by
  have HN := Lib.hid hp.1
  have HP := Lib.hid hp
  have hn := Nat.le_trans hp.2.1.1 hp.2.1.2
  clear hp
  obtain ⟨id, tn, pg, pc, un, k0, k1, k2, k3, st, rn⟩ := t
  have HC := Lib.hid (fun w => chk_any ⟨id, tn, pg, pc, un, k0, k1, k2, k3, st, rn⟩ w)
  unfold tc at HC ⊢
  dsimp only at HC ⊢
  by_cases h1 : okT ⟨id, tn, pg, pc, un, k0, k1, k2, k3, st, rn⟩
  · by_cases h2 : okP p
    · by_cases h3 : pc ≤ n
      · have HE := Lib.hid (chk_0 h1)
        have HQ := Lib.hid (errP_ok h2)
        have hu : 0 ≤ un ∧ un < 100 := h1.1.2.2.2.2.1
        obtain ⟨k, rfl⟩ : ∃ k : Nat, pc = k := ⟨pc.toNat, by have : 0 ≤ pc := h1.1.2.2.2.1.1; omega⟩
        have hk : k ≤ n := by omega
        have HR := Lib.hid (fit_last h1 h2 (k := k) rfl (by rw [HN.out]; exact hk))
        rw [HR.out]
        clear HR h1 h2 h3
        generalize hx : atN p k = x
        obtain ⟨xo, xa, xb⟩ := x
        have HX := Lib.hid hx
        clear hx
        dsimp only
        obtain ⟨kb0, hb0⟩ := lies1 w #[.int .i64 id, .int .i64 tn, .int .i64 pg, .int .i64 k, .int .i64 un, .int .i64 k0, .int .i64 k1, .int .i64 k2, .int .i64 k3, .int .i64 st, .int .i64 rn] 44
        obtain ⟨V, hV⟩ : ∃ V, w.alloc (.cells #[.int .i64 id, .int .i64 tn, .int .i64 pg, .int .i64 k, .int .i64 un, .int .i64 k0, .int .i64 k1, .int .i64 k2, .int .i64 k3, .int .i64 st, .int .i64 rn] 44) = V := ⟨_, rfl⟩
        rw [hV] at hb0 kb0
        have HV := Lib.hid hV
        have BB := Lib.hid hb0
        have Kt := Lib.hid kb0
        have HBt : Hid (w.heap.size ≤ w.heap.size) := Lib.hid (by omega)
        clear hV hb0 kb0
        go_enter Tryd.func64, Tryd.ntmps64
        go_upto_region 1 with fail
        rw [HV.out]
        clear HV
        obtain ⟨qt_0, qt_1, qt_2, qt_3, qt_4, qt_5, qt_6, qt_7, qt_8, qt_9, qt_10⟩ := Kt.out.c11
        have lt := Kt.out.lt
        go_wp2_with fail
        refine (HC.out _).mono ?_
        rw [HE.out]
        rintro e U1 ⟨rfl, bU1⟩
        clear qt_0 qt_1 qt_2 qt_3 qt_4 qt_5 qt_6 qt_7 qt_8 qt_9 qt_10 lt
        replace BB := Lib.hid (below3 BB.out bU1)
        replace Kt := Lib.hid (Kt.out.below bU1 Kt.out.lt)
        clear bU1
        go_wp2_with fail
        refine (check_any _ n c p _ (HP.out.below BB.out)).mono ?_
        rw [HQ.out]
        rintro e U2 ⟨rfl, bU2⟩
        replace BB := Lib.hid (below3 BB.out bU2)
        replace Kt := Lib.hid (Kt.out.below bU2 Kt.out.lt)
        clear bU2
        obtain ⟨qt_0, qt_1, qt_2, qt_3, qt_4, qt_5, qt_6, qt_7, qt_8, qt_9, qt_10⟩ := Kt.out.c11
        have lt := Kt.out.lt
        have HQ2 := Lib.hid hu
        clear hu
        go_wp2_with fail
        refine (at_any A n c p _ (HP.out.below BB.out) k hk).mono ?_
        rw [HX.out]
        rintro e U3 ⟨rfl, bU3⟩
        clear qt_0 qt_1 qt_2 qt_3 qt_4 qt_5 qt_6 qt_7 qt_8 qt_9 qt_10 lt
        replace BB := Lib.hid (below3 BB.out bU3)
        replace Kt := Lib.hid (Kt.out.below bU3 Kt.out.lt)
        clear bU3
        unfold vI
        dsimp only
        have kn := Bk.new U3 50 #[.int .i64 xo, .int .i64 xa, .int .i64 xb]
        have ba := (Below.refl U3.heap.size U3).alloc (Nat.le_refl _) (.cells #[.int .i64 xo, .int .i64 xa, .int .i64 xb] 50)
        have hgb := BB.out.size
        have nt_x := Nat.ne_of_lt Kt.out.lt
        replace BB := Lib.hid (below3 BB.out ba)
        replace Kt := Lib.hid (Kt.out.below ba Kt.out.lt)
        obtain ⟨gx, hg⟩ : ∃ g, U3.heap.size = g := ⟨_, rfl⟩
        obtain ⟨V4, hW⟩ : ∃ W, U3.alloc (.cells #[.int .i64 xo, .int .i64 xa, .int .i64 xb] 50) = W := ⟨_, rfl⟩
        have Kx := Lib.hid kn
        rw [hW] at BB Kx Kt
        rw [hg] at Kx hgb nt_x
        have HGx := Lib.hid hg
        have HWx := Lib.hid hW
        have HBx := Lib.hid hgb
        have Nt_x := Lib.hid nt_x
        clear hW hg kn ba hgb nt_x
        go_upto_region 4 with fail
        rw [HWx.out]
        try rw [HGx.out]
        clear HWx HGx
        obtain ⟨qt_0, qt_1, qt_2, qt_3, qt_4, qt_5, qt_6, qt_7, qt_8, qt_9, qt_10⟩ := Kt.out.c11
        have lt := Kt.out.lt
        obtain ⟨qx_0, qx_1, qx_2⟩ := Kx.out.c3
        have lx := Kx.out.lt
        by_cases hun : un = 0
        · have d0 : (un == 0) = true := by simpa using hun
          have d9 : ((un == 0) || ((xo == 1) && decide (un < xa))) = true := by rw [d0]; rfl
          have D9 := Lib.hid d9
          clear d9 hun
          go_wp2
          go_ret
          exact ⟨ret_bool D9.out.symm, BB.out⟩
        · by_cases hxo : xo = 1
          · have d0 : (un == 0) = false := by simpa using hun
            have d1 : (xo == 1) = true := by simpa using hxo
            have d9 : ((un == 0) || ((xo == 1) && decide (un < xa))) = decide (un < xa) := by rw [d0, d1]; rfl
            have D9 := Lib.hid d9
            clear d9 hun hxo
            go_wp2
            go_ret
            exact ⟨ret_bool D9.out.symm, BB.out⟩
          · have d0 : (un == 0) = false := by simpa using hun
            have d1 : (xo == 1) = false := by simpa using hxo
            have d9 : ((un == 0) || ((xo == 1) && decide (un < xa))) = false := by rw [d0, d1]; rfl
            have D9 := Lib.hid d9
            clear d9 hun hxo
            go_wp2
            go_ret
            exact ⟨ret_bool D9.out.symm, BB.out⟩
      · have HE := Lib.hid (chk_0 h1)
        have HQ := Lib.hid (errP_ok h2)
        have h4 : (n : Int) < pc := by omega
        have HR := Lib.hid (okFB_no (t := ⟨id, tn, pg, pc, un, k0, k1, k2, k3, st, rn⟩) (p := p) (fun q => h3 (by have := q.2.2.1; rw [HN.out] at this; exact this)))
        rw [HR.out]
        clear HR h1 h3
        obtain ⟨kb0, hb0⟩ := lies1 w #[.int .i64 id, .int .i64 tn, .int .i64 pg, .int .i64 pc, .int .i64 un, .int .i64 k0, .int .i64 k1, .int .i64 k2, .int .i64 k3, .int .i64 st, .int .i64 rn] 44
        obtain ⟨V, hV⟩ : ∃ V, w.alloc (.cells #[.int .i64 id, .int .i64 tn, .int .i64 pg, .int .i64 pc, .int .i64 un, .int .i64 k0, .int .i64 k1, .int .i64 k2, .int .i64 k3, .int .i64 st, .int .i64 rn] 44) = V := ⟨_, rfl⟩
        rw [hV] at hb0 kb0
        have HV := Lib.hid hV
        have BB := Lib.hid hb0
        have Kt := Lib.hid kb0
        have HBt : Hid (w.heap.size ≤ w.heap.size) := Lib.hid (by omega)
        clear hV hb0 kb0
        go_enter Tryd.func64, Tryd.ntmps64
        go_upto_region 1 with fail
        rw [HV.out]
        clear HV
        obtain ⟨qt_0, qt_1, qt_2, qt_3, qt_4, qt_5, qt_6, qt_7, qt_8, qt_9, qt_10⟩ := Kt.out.c11
        have lt := Kt.out.lt
        go_wp2_with fail
        refine (HC.out _).mono ?_
        rw [HE.out]
        rintro e U1 ⟨rfl, bU1⟩
        clear qt_0 qt_1 qt_2 qt_3 qt_4 qt_5 qt_6 qt_7 qt_8 qt_9 qt_10 lt
        replace BB := Lib.hid (below3 BB.out bU1)
        replace Kt := Lib.hid (Kt.out.below bU1 Kt.out.lt)
        clear bU1
        go_wp2_with fail
        refine (check_any _ n c p _ (HP.out.below BB.out)).mono ?_
        rw [HQ.out]
        rintro e U2 ⟨rfl, bU2⟩
        replace BB := Lib.hid (below3 BB.out bU2)
        replace Kt := Lib.hid (Kt.out.below bU2 Kt.out.lt)
        clear bU2
        obtain ⟨qt_0, qt_1, qt_2, qt_3, qt_4, qt_5, qt_6, qt_7, qt_8, qt_9, qt_10⟩ := Kt.out.c11
        have lt := Kt.out.lt
        go_wp2
        go_ret
        exact ⟨rfl, BB.out⟩
    · have HE := Lib.hid (chk_0 h1)
      have HQ := Lib.hid (errP_no h2)
      have HR := Lib.hid (okFB_no (t := ⟨id, tn, pg, pc, un, k0, k1, k2, k3, st, rn⟩) (p := p) (fun q => h2 q.2.1))
      rw [HR.out]
      clear HR h1 h2
      obtain ⟨kb0, hb0⟩ := lies1 w #[.int .i64 id, .int .i64 tn, .int .i64 pg, .int .i64 pc, .int .i64 un, .int .i64 k0, .int .i64 k1, .int .i64 k2, .int .i64 k3, .int .i64 st, .int .i64 rn] 44
      obtain ⟨V, hV⟩ : ∃ V, w.alloc (.cells #[.int .i64 id, .int .i64 tn, .int .i64 pg, .int .i64 pc, .int .i64 un, .int .i64 k0, .int .i64 k1, .int .i64 k2, .int .i64 k3, .int .i64 st, .int .i64 rn] 44) = V := ⟨_, rfl⟩
      rw [hV] at hb0 kb0
      have HV := Lib.hid hV
      have BB := Lib.hid hb0
      have Kt := Lib.hid kb0
      have HBt : Hid (w.heap.size ≤ w.heap.size) := Lib.hid (by omega)
      clear hV hb0 kb0
      go_enter Tryd.func64, Tryd.ntmps64
      go_upto_region 1 with fail
      rw [HV.out]
      clear HV
      obtain ⟨qt_0, qt_1, qt_2, qt_3, qt_4, qt_5, qt_6, qt_7, qt_8, qt_9, qt_10⟩ := Kt.out.c11
      have lt := Kt.out.lt
      go_wp2_with fail
      refine (HC.out _).mono ?_
      rw [HE.out]
      rintro e U1 ⟨rfl, bU1⟩
      clear qt_0 qt_1 qt_2 qt_3 qt_4 qt_5 qt_6 qt_7 qt_8 qt_9 qt_10 lt
      replace BB := Lib.hid (below3 BB.out bU1)
      replace Kt := Lib.hid (Kt.out.below bU1 Kt.out.lt)
      clear bU1
      go_wp2_with fail
      refine (check_any _ n c p _ (HP.out.below BB.out)).mono ?_
      rw [HQ.out]
      rintro e U2 ⟨rfl, bU2⟩
      replace BB := Lib.hid (below3 BB.out bU2)
      replace Kt := Lib.hid (Kt.out.below bU2 Kt.out.lt)
      clear bU2
      go_wp2
      go_ret
      exact ⟨rfl, BB.out⟩
  · have HE := Lib.hid (chk_1 h1)
    have HR := Lib.hid (okFB_no (t := ⟨id, tn, pg, pc, un, k0, k1, k2, k3, st, rn⟩) (p := p) (fun q => h1 q.1))
    rw [HR.out]
    clear HR h1
    obtain ⟨kb0, hb0⟩ := lies1 w #[.int .i64 id, .int .i64 tn, .int .i64 pg, .int .i64 pc, .int .i64 un, .int .i64 k0, .int .i64 k1, .int .i64 k2, .int .i64 k3, .int .i64 st, .int .i64 rn] 44
    obtain ⟨V, hV⟩ : ∃ V, w.alloc (.cells #[.int .i64 id, .int .i64 tn, .int .i64 pg, .int .i64 pc, .int .i64 un, .int .i64 k0, .int .i64 k1, .int .i64 k2, .int .i64 k3, .int .i64 st, .int .i64 rn] 44) = V := ⟨_, rfl⟩
    rw [hV] at hb0 kb0
    have HV := Lib.hid hV
    have BB := Lib.hid hb0
    have Kt := Lib.hid kb0
    have HBt : Hid (w.heap.size ≤ w.heap.size) := Lib.hid (by omega)
    clear hV hb0 kb0
    go_enter Tryd.func64, Tryd.ntmps64
    go_upto_region 1 with fail
    rw [HV.out]
    clear HV
    obtain ⟨qt_0, qt_1, qt_2, qt_3, qt_4, qt_5, qt_6, qt_7, qt_8, qt_9, qt_10⟩ := Kt.out.c11
    have lt := Kt.out.lt
    go_wp2_with fail
    refine (HC.out _).mono ?_
    rw [HE.out]
    rintro e U1 ⟨rfl, bU1⟩
    clear qt_0 qt_1 qt_2 qt_3 qt_4 qt_5 qt_6 qt_7 qt_8 qt_9 qt_10 lt
    replace BB := Lib.hid (below3 BB.out bU1)
    replace Kt := Lib.hid (Kt.out.below bU1 Kt.out.lt)
    clear bU1
    go_wp2
    go_ret
    exact ⟨rfl, BB.out⟩

set_option maxRecDepth 100000 in
set_option maxHeartbeats 4000000 in
theorem rfits_any (t : Tk) (A : Option Addr) (n c : Nat) (p : List I3) (w : World) (hp : Prog w A n c p) : Calls Tryd.prog 47 #[.agg (tc t), .slice A n c] w (RetB (.bool (okFB t p)) w) := by
  have HN := Lib.hid hp.1
  have HP := Lib.hid hp
  have hn := Nat.le_trans hp.2.1.1 hp.2.1.2
  clear hp
  obtain ⟨id, tn, pg, pc, un, k0, k1, k2, k3, st, rn⟩ := t
  have HC := Lib.hid (fun w => rchk_any ⟨id, tn, pg, pc, un, k0, k1, k2, k3, st, rn⟩ w)
  unfold tc at HC ⊢
  dsimp only at HC ⊢
  by_cases h1 : okT ⟨id, tn, pg, pc, un, k0, k1, k2, k3, st, rn⟩
  · by_cases h2 : okP p
    · by_cases h3 : pc ≤ n
      · have HE := Lib.hid (chk_0 h1)
        have HQ := Lib.hid (errP_ok h2)
        have hu : 0 ≤ un ∧ un < 100 := h1.1.2.2.2.2.1
        obtain ⟨k, rfl⟩ : ∃ k : Nat, pc = k := ⟨pc.toNat, by have : 0 ≤ pc := h1.1.2.2.2.1.1; omega⟩
        have hk : k ≤ n := by omega
        have HR := Lib.hid (fit_last h1 h2 (k := k) rfl (by rw [HN.out]; exact hk))
        rw [HR.out]
        clear HR h1 h2 h3
        by_cases hun : un = 0
        · have d0 : (un == 0) = true := by simpa using hun
          have d9 : ((un == 0) || (((atN p k).1 == 1) && decide (un < (atN p k).2.1))) = true := by rw [d0]; rfl
          rw [d9]
          clear d9 hun
          obtain ⟨kb0, hb0⟩ := lies1 w #[.int .i64 id, .int .i64 tn, .int .i64 pg, .int .i64 k, .int .i64 un, .int .i64 k0, .int .i64 k1, .int .i64 k2, .int .i64 k3, .int .i64 st, .int .i64 rn] 44
          obtain ⟨V, hV⟩ : ∃ V, w.alloc (.cells #[.int .i64 id, .int .i64 tn, .int .i64 pg, .int .i64 k, .int .i64 un, .int .i64 k0, .int .i64 k1, .int .i64 k2, .int .i64 k3, .int .i64 st, .int .i64 rn] 44) = V := ⟨_, rfl⟩
          rw [hV] at hb0 kb0
          have HV := Lib.hid hV
          have BB := Lib.hid hb0
          have Kt := Lib.hid kb0
          have HBt : Hid (w.heap.size ≤ w.heap.size) := Lib.hid (by omega)
          clear hV hb0 kb0
          go_enter Tryd.func47, Tryd.ntmps47
          go_upto_region 1 with fail
          rw [HV.out]
          clear HV
          obtain ⟨qt_0, qt_1, qt_2, qt_3, qt_4, qt_5, qt_6, qt_7, qt_8, qt_9, qt_10⟩ := Kt.out.c11
          have lt := Kt.out.lt
          go_wp2_with fail
          refine (HC.out _).mono ?_
          rw [HE.out]
          rintro e U1 ⟨rfl, bU1⟩
          clear qt_0 qt_1 qt_2 qt_3 qt_4 qt_5 qt_6 qt_7 qt_8 qt_9 qt_10 lt
          replace BB := Lib.hid (below3 BB.out bU1)
          replace Kt := Lib.hid (Kt.out.below bU1 Kt.out.lt)
          clear bU1
          go_wp2_with fail
          refine (rcheck_any _ n c p _ (HP.out.below BB.out)).mono ?_
          rw [HQ.out]
          rintro e U2 ⟨rfl, bU2⟩
          replace BB := Lib.hid (below3 BB.out bU2)
          replace Kt := Lib.hid (Kt.out.below bU2 Kt.out.lt)
          clear bU2
          obtain ⟨qt_0, qt_1, qt_2, qt_3, qt_4, qt_5, qt_6, qt_7, qt_8, qt_9, qt_10⟩ := Kt.out.c11
          have lt := Kt.out.lt
          go_wp2
          go_ret
          exact ⟨rfl, BB.out⟩
        · by_cases hke : k = n
          · have d0 : (un == 0) = false := by simpa using hun
            have d9 : ((un == 0) || (((atN p k).1 == 1) && decide (un < (atN p k).2.1))) = false := by rw [d0, atN_end (by rw [HN.out]; exact hke)]; rfl
            rw [d9]
            have hnl : ¬ ((k : Int) < n) := by omega
            have hnl2 : decide (k < n) = false := decide_eq_false (by omega)
            have hnl3 : decide ((k : Int) < (n : Int)) = false := decide_eq_false (by omega)
            clear d9 hun hke
            obtain ⟨kb0, hb0⟩ := lies1 w #[.int .i64 id, .int .i64 tn, .int .i64 pg, .int .i64 k, .int .i64 un, .int .i64 k0, .int .i64 k1, .int .i64 k2, .int .i64 k3, .int .i64 st, .int .i64 rn] 44
            obtain ⟨V, hV⟩ : ∃ V, w.alloc (.cells #[.int .i64 id, .int .i64 tn, .int .i64 pg, .int .i64 k, .int .i64 un, .int .i64 k0, .int .i64 k1, .int .i64 k2, .int .i64 k3, .int .i64 st, .int .i64 rn] 44) = V := ⟨_, rfl⟩
            rw [hV] at hb0 kb0
            have HV := Lib.hid hV
            have BB := Lib.hid hb0
            have Kt := Lib.hid kb0
            have HBt : Hid (w.heap.size ≤ w.heap.size) := Lib.hid (by omega)
            clear hV hb0 kb0
            go_enter Tryd.func47, Tryd.ntmps47
            go_upto_region 1 with fail
            rw [HV.out]
            clear HV
            obtain ⟨qt_0, qt_1, qt_2, qt_3, qt_4, qt_5, qt_6, qt_7, qt_8, qt_9, qt_10⟩ := Kt.out.c11
            have lt := Kt.out.lt
            go_wp2_with fail
            refine (HC.out _).mono ?_
            rw [HE.out]
            rintro e U1 ⟨rfl, bU1⟩
            clear qt_0 qt_1 qt_2 qt_3 qt_4 qt_5 qt_6 qt_7 qt_8 qt_9 qt_10 lt
            replace BB := Lib.hid (below3 BB.out bU1)
            replace Kt := Lib.hid (Kt.out.below bU1 Kt.out.lt)
            clear bU1
            go_wp2_with fail
            refine (rcheck_any _ n c p _ (HP.out.below BB.out)).mono ?_
            rw [HQ.out]
            rintro e U2 ⟨rfl, bU2⟩
            replace BB := Lib.hid (below3 BB.out bU2)
            replace Kt := Lib.hid (Kt.out.below bU2 Kt.out.lt)
            clear bU2
            obtain ⟨qt_0, qt_1, qt_2, qt_3, qt_4, qt_5, qt_6, qt_7, qt_8, qt_9, qt_10⟩ := Kt.out.c11
            have lt := Kt.out.lt
            go_upto_region 5 with fail
            go_quiet (fail)
            go_wp2
            go_ret
            exact ⟨rfl, Below.drewN_ BB.out _⟩
          · have d0 : (un == 0) = false := by simpa using hun
            have hj : (atN p k) = (jO p k, jA p k, jB p k) := atN_in (by rw [HN.out]; omega)
            rw [hj, d0, Bool.false_or]
            dsimp only
            clear hj hun
            obtain ⟨b, o, rfl, hbl, g0, g1, g2⟩ := HP.out.at_ (j := k) (by omega)
            have hlt : (k : Int) < n := by omega
            have hne : ¬ (k : Int) = n := by omega
            generalize jO p k = xo at g0 ⊢
            generalize jA p k = xa at g1 ⊢
            generalize jB p k = xb at g2 ⊢
            obtain ⟨kb0, hb0⟩ := lies1 w #[.int .i64 id, .int .i64 tn, .int .i64 pg, .int .i64 k, .int .i64 un, .int .i64 k0, .int .i64 k1, .int .i64 k2, .int .i64 k3, .int .i64 st, .int .i64 rn] 44
            obtain ⟨V, hV⟩ : ∃ V, w.alloc (.cells #[.int .i64 id, .int .i64 tn, .int .i64 pg, .int .i64 k, .int .i64 un, .int .i64 k0, .int .i64 k1, .int .i64 k2, .int .i64 k3, .int .i64 st, .int .i64 rn] 44) = V := ⟨_, rfl⟩
            rw [hV] at hb0 kb0
            have HV := Lib.hid hV
            have BB := Lib.hid hb0
            have Kt := Lib.hid kb0
            have HBt : Hid (w.heap.size ≤ w.heap.size) := Lib.hid (by omega)
            clear hV hb0 kb0
            go_enter Tryd.func47, Tryd.ntmps47
            go_upto_region 1 with fail
            rw [HV.out]
            clear HV
            obtain ⟨qt_0, qt_1, qt_2, qt_3, qt_4, qt_5, qt_6, qt_7, qt_8, qt_9, qt_10⟩ := Kt.out.c11
            have lt := Kt.out.lt
            go_wp2_with fail
            refine (HC.out _).mono ?_
            rw [HE.out]
            rintro e U1 ⟨rfl, bU1⟩
            clear qt_0 qt_1 qt_2 qt_3 qt_4 qt_5 qt_6 qt_7 qt_8 qt_9 qt_10 lt
            replace BB := Lib.hid (below3 BB.out bU1)
            replace Kt := Lib.hid (Kt.out.below bU1 Kt.out.lt)
            clear bU1
            go_wp2_with fail
            refine (rcheck_any _ n c p _ (HP.out.below BB.out)).mono ?_
            rw [HQ.out]
            rintro e U2 ⟨rfl, bU2⟩
            replace BB := Lib.hid (below3 BB.out bU2)
            replace Kt := Lib.hid (Kt.out.below bU2 Kt.out.lt)
            clear bU2
            obtain ⟨qt_0, qt_1, qt_2, qt_3, qt_4, qt_5, qt_6, qt_7, qt_8, qt_9, qt_10⟩ := Kt.out.c11
            have lt := Kt.out.lt
            obtain ⟨x0, x1, x2⟩ : _ ∧ _ ∧ _ := ⟨(BB.out.cell (p := ⟨b, _, none⟩) hbl).trans g0, (BB.out.cell (p := ⟨b, _, none⟩) hbl).trans g1, (BB.out.cell (p := ⟨b, _, none⟩) hbl).trans g2⟩
            have hbl2 := Nat.lt_of_lt_of_le hbl BB.out.size
            by_cases hxo : xo = 1
            · subst hxo
              go_upto_region 5 with fail
              go_quiet (fail)
              go_wp2
              go_ret
              exact ⟨rfl, Below.drewN_ BB.out _⟩
            · have d1 : (xo == 1) = false := by simpa using hxo
              have D1 : Hid (((xo == 1) && decide (un < xa)) = false) := Lib.hid (by rw [d1, Bool.false_and])
              clear hxo
              go_upto_region 5 with fail
              go_quiet (fail)
              go_wp2
              go_ret
              exact ⟨ret_bool D1.out.symm, Below.drewN_ BB.out _⟩
      · have HE := Lib.hid (chk_0 h1)
        have HQ := Lib.hid (errP_ok h2)
        have h4 : (n : Int) < pc := by omega
        have HR := Lib.hid (okFB_no (t := ⟨id, tn, pg, pc, un, k0, k1, k2, k3, st, rn⟩) (p := p) (fun q => h3 (by have := q.2.2.1; rw [HN.out] at this; exact this)))
        rw [HR.out]
        clear HR h1 h3
        obtain ⟨kb0, hb0⟩ := lies1 w #[.int .i64 id, .int .i64 tn, .int .i64 pg, .int .i64 pc, .int .i64 un, .int .i64 k0, .int .i64 k1, .int .i64 k2, .int .i64 k3, .int .i64 st, .int .i64 rn] 44
        obtain ⟨V, hV⟩ : ∃ V, w.alloc (.cells #[.int .i64 id, .int .i64 tn, .int .i64 pg, .int .i64 pc, .int .i64 un, .int .i64 k0, .int .i64 k1, .int .i64 k2, .int .i64 k3, .int .i64 st, .int .i64 rn] 44) = V := ⟨_, rfl⟩
        rw [hV] at hb0 kb0
        have HV := Lib.hid hV
        have BB := Lib.hid hb0
        have Kt := Lib.hid kb0
        have HBt : Hid (w.heap.size ≤ w.heap.size) := Lib.hid (by omega)
        clear hV hb0 kb0
        go_enter Tryd.func47, Tryd.ntmps47
        go_upto_region 1 with fail
        rw [HV.out]
        clear HV
        obtain ⟨qt_0, qt_1, qt_2, qt_3, qt_4, qt_5, qt_6, qt_7, qt_8, qt_9, qt_10⟩ := Kt.out.c11
        have lt := Kt.out.lt
        go_wp2_with fail
        refine (HC.out _).mono ?_
        rw [HE.out]
        rintro e U1 ⟨rfl, bU1⟩
        clear qt_0 qt_1 qt_2 qt_3 qt_4 qt_5 qt_6 qt_7 qt_8 qt_9 qt_10 lt
        replace BB := Lib.hid (below3 BB.out bU1)
        replace Kt := Lib.hid (Kt.out.below bU1 Kt.out.lt)
        clear bU1
        go_wp2_with fail
        refine (rcheck_any _ n c p _ (HP.out.below BB.out)).mono ?_
        rw [HQ.out]
        rintro e U2 ⟨rfl, bU2⟩
        replace BB := Lib.hid (below3 BB.out bU2)
        replace Kt := Lib.hid (Kt.out.below bU2 Kt.out.lt)
        clear bU2
        obtain ⟨qt_0, qt_1, qt_2, qt_3, qt_4, qt_5, qt_6, qt_7, qt_8, qt_9, qt_10⟩ := Kt.out.c11
        have lt := Kt.out.lt
        go_wp2
        go_ret
        exact ⟨rfl, BB.out⟩
    · have HE := Lib.hid (chk_0 h1)
      have HQ := Lib.hid (errP_no h2)
      have HR := Lib.hid (okFB_no (t := ⟨id, tn, pg, pc, un, k0, k1, k2, k3, st, rn⟩) (p := p) (fun q => h2 q.2.1))
      rw [HR.out]
      clear HR h1 h2
      obtain ⟨kb0, hb0⟩ := lies1 w #[.int .i64 id, .int .i64 tn, .int .i64 pg, .int .i64 pc, .int .i64 un, .int .i64 k0, .int .i64 k1, .int .i64 k2, .int .i64 k3, .int .i64 st, .int .i64 rn] 44
      obtain ⟨V, hV⟩ : ∃ V, w.alloc (.cells #[.int .i64 id, .int .i64 tn, .int .i64 pg, .int .i64 pc, .int .i64 un, .int .i64 k0, .int .i64 k1, .int .i64 k2, .int .i64 k3, .int .i64 st, .int .i64 rn] 44) = V := ⟨_, rfl⟩
      rw [hV] at hb0 kb0
      have HV := Lib.hid hV
      have BB := Lib.hid hb0
      have Kt := Lib.hid kb0
      have HBt : Hid (w.heap.size ≤ w.heap.size) := Lib.hid (by omega)
      clear hV hb0 kb0
      go_enter Tryd.func47, Tryd.ntmps47
      go_upto_region 1 with fail
      rw [HV.out]
      clear HV
      obtain ⟨qt_0, qt_1, qt_2, qt_3, qt_4, qt_5, qt_6, qt_7, qt_8, qt_9, qt_10⟩ := Kt.out.c11
      have lt := Kt.out.lt
      go_wp2_with fail
      refine (HC.out _).mono ?_
      rw [HE.out]
      rintro e U1 ⟨rfl, bU1⟩
      clear qt_0 qt_1 qt_2 qt_3 qt_4 qt_5 qt_6 qt_7 qt_8 qt_9 qt_10 lt
      replace BB := Lib.hid (below3 BB.out bU1)
      replace Kt := Lib.hid (Kt.out.below bU1 Kt.out.lt)
      clear bU1
      go_wp2_with fail
      refine (rcheck_any _ n c p _ (HP.out.below BB.out)).mono ?_
      rw [HQ.out]
      rintro e U2 ⟨rfl, bU2⟩
      replace BB := Lib.hid (below3 BB.out bU2)
      replace Kt := Lib.hid (Kt.out.below bU2 Kt.out.lt)
      clear bU2
      go_wp2
      go_ret
      exact ⟨rfl, BB.out⟩
  · have HE := Lib.hid (chk_1 h1)
    have HR := Lib.hid (okFB_no (t := ⟨id, tn, pg, pc, un, k0, k1, k2, k3, st, rn⟩) (p := p) (fun q => h1 q.1))
    rw [HR.out]
    clear HR h1
    obtain ⟨kb0, hb0⟩ := lies1 w #[.int .i64 id, .int .i64 tn, .int .i64 pg, .int .i64 pc, .int .i64 un, .int .i64 k0, .int .i64 k1, .int .i64 k2, .int .i64 k3, .int .i64 st, .int .i64 rn] 44
    obtain ⟨V, hV⟩ : ∃ V, w.alloc (.cells #[.int .i64 id, .int .i64 tn, .int .i64 pg, .int .i64 pc, .int .i64 un, .int .i64 k0, .int .i64 k1, .int .i64 k2, .int .i64 k3, .int .i64 st, .int .i64 rn] 44) = V := ⟨_, rfl⟩
    rw [hV] at hb0 kb0
    have HV := Lib.hid hV
    have BB := Lib.hid hb0
    have Kt := Lib.hid kb0
    have HBt : Hid (w.heap.size ≤ w.heap.size) := Lib.hid (by omega)
    clear hV hb0 kb0
    go_enter Tryd.func47, Tryd.ntmps47
    go_upto_region 1 with fail
    rw [HV.out]
    clear HV
    obtain ⟨qt_0, qt_1, qt_2, qt_3, qt_4, qt_5, qt_6, qt_7, qt_8, qt_9, qt_10⟩ := Kt.out.c11
    have lt := Kt.out.lt
    go_wp2_with fail
    refine (HC.out _).mono ?_
    rw [HE.out]
    rintro e U1 ⟨rfl, bU1⟩
    clear qt_0 qt_1 qt_2 qt_3 qt_4 qt_5 qt_6 qt_7 qt_8 qt_9 qt_10 lt
    replace BB := Lib.hid (below3 BB.out bU1)
    replace Kt := Lib.hid (Kt.out.below bU1 Kt.out.lt)
    clear bU1
    go_wp2
    go_ret
    exact ⟨rfl, BB.out⟩

end Go.Proofs.YtfhlligcbpnkkaaDoor

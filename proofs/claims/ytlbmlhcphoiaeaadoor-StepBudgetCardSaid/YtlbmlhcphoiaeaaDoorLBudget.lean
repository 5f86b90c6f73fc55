/-
  The walk of the law StepBudget of layer 13.
-/
import Derived.Test.YtlbmlhcphoiaeaaDoorSto
import Derived.Test.YtlbmlhcphoiaeaaDoorSth
namespace Go.Proofs.YtlbmlhcphoiaeaaDoor
open Go.RowKit

theorem leftV_nonneg {t : Tk} {p : List I3} (h : okF t p) : 0 ≤ leftV t p := by
  obtain ⟨k, hk, h1, h2, h3, -, -, -, h7⟩ := h.num
  by_cases ho : outB p k = true
  · rw [leftV_out hk ho]; omega
  · rw [leftV_in hk (by cases hh : outB p k <;> simp_all)]
    have hnn := units_nonneg h.2.1 (p.length - k) k rfl
    rcases h7 with e | ⟨e, f⟩
    · omega
    · obtain ⟨_, hl⟩ := h.work hk e
      have hud := units_drop hl
      have hn1 := units_nonneg h.2.1 (p.length - (k + 1)) (k + 1) rfl
      rw [atN_in hl] at e f
      dsimp only at e f
      have hw : wgt (ith p k) = jA p k := if_pos e
      rw [hw] at hud
      split at hud <;> omega
/-- What a slice leaves. -/
theorem slice_left {t : Tk} {p : List I3} {b : Int} (he : (leftR t p).2 = 0) (hc : (sliceR t p b).2.2.2 = 0) : okF t p ∧ ∃ m cn : Nat, b = (m : Int) ∧ 1 ≤ m ∧ m ≤ 100 ∧ 1 ≤ cn ∧ cn ≤ m ∧ (sliceR t p b).2.2.1 = (cn : Int) ∧ okF (sliceR t p b).1 p ∧
    leftV (sliceR t p b).1 p = max (leftV t p - cn) 0 ∧ (sliceR t p b).1.rn = t.rn + cn ∧ ((sliceR t p b).2.1.1 ≠ 0 ∨ cn = m) := by
  have h : okF t p := by
    refine Classical.byContradiction fun q => ?_
    rw [leftR_no q] at he; exact absurd he (by decide)
  by_cases hb : 1 ≤ b ∧ b ≤ 100
  · obtain ⟨m, rfl⟩ : ∃ m : Nat, b = m := ⟨b.toNat, by omega⟩
    have hs := sliceR_yes h (m := m) (by omega) (by omega)
    rw [hs] at hc ⊢
    obtain ⟨cn, c1, c2, c3, c4, c5, c6, c7⟩ := run_left m 0 t h hc
    have h0 := leftV_nonneg h
    refine ⟨h, m, cn, rfl, by omega, by omega, by omega, c1, ?_, c4, ?_, c6, c7⟩
    · rw [c3]; omega
    · rw [c5]; omega
  · rw [sliceR_no (fun q => hb q.2)] at hc; exact absurd hc (by decide)

set_option maxRecDepth 100000 in
set_option maxHeartbeats 8000000 in
theorem lbudget_1 (t : Tk) (A : Option Addr) (n c : Nat) (p : List I3) (b : Int) (w : World) (hp : Prog w A n c p) (hF : Fol w) (hb : 200 < n) : Calls Tryd.prog 8 #[.agg (tc t), .slice A n c, .int .i64 b] w (TrueAns w) := by
  have HP := Lib.hid hp
  have HN := Lib.hid hp.1
  have hn := Nat.le_trans hp.2.1.1 hp.2.1.2
  have HF := Lib.hid hF
  clear hp hF
  obtain ⟨id, tn, pg, pc, un, k0, k1, k2, k3, st, rn⟩ := t
  unfold tc
  dsimp only
  have h2 : (200 : Int) < n := by omega
  obtain ⟨kb0, hb0⟩ := lies1 w #[.int .i64 id, .int .i64 tn, .int .i64 pg, .int .i64 pc, .int .i64 un, .int .i64 k0, .int .i64 k1, .int .i64 k2, .int .i64 k3, .int .i64 st, .int .i64 rn] 24
  obtain ⟨V, hV⟩ : ∃ V, w.alloc (.cells #[.int .i64 id, .int .i64 tn, .int .i64 pg, .int .i64 pc, .int .i64 un, .int .i64 k0, .int .i64 k1, .int .i64 k2, .int .i64 k3, .int .i64 st, .int .i64 rn] 24) = V := ⟨_, rfl⟩
  rw [hV] at hb0 kb0
  have HV := Lib.hid hV
  have BB := Lib.hid hb0
  have Kt := Lib.hid kb0
  have HBt : Hid (w.heap.size ≤ w.heap.size) := Lib.hid (by omega)
  clear hV hb0 kb0
  go_enter Tryd.func8, Tryd.ntmps8
  go_upto_region 1 with fail
  rw [HV.out]
  clear HV
  go_wp2_with fail
  refine (live_any _ (HF.out.le BB.out)).mono ?_
  rintro e U1 ⟨rfl, bU1⟩
  replace BB := Lib.hid (below3 BB.out bU1)
  replace Kt := Lib.hid (Kt.out.below bU1 Kt.out.lt)
  clear bU1
  go_wp2
  go_ret
  exact ⟨rfl, BB.out⟩

set_option maxRecDepth 100000 in
set_option maxHeartbeats 8000000 in
theorem lbudget_2 (t : Tk) (A : Option Addr) (n c : Nat) (p : List I3) (b : Int) (w : World) (hp : Prog w A n c p) (hF : Fol w) (hb : ¬ 200 < n) (he : (leftR t p).2 ≠ 0) : Calls Tryd.prog 8 #[.agg (tc t), .slice A n c, .int .i64 b] w (TrueAns w) := by
  have HP := Lib.hid hp
  have HN := Lib.hid hp.1
  have hn := Nat.le_trans hp.2.1.1 hp.2.1.2
  have HF := Lib.hid hF
  clear hp hF
  have CL := Lib.hid (fun (W : World) (hbw : Below w.heap.size w W) => left_any t A n c p W (HP.out.below hbw))
  have CS := Lib.hid (fun (W : World) (hbw : Below w.heap.size w W) => slice_any t A n c p b W (HP.out.below hbw))
  generalize leftR t p = l at *
  generalize sliceR t p b = s at *
  obtain ⟨lv, le⟩ := l
  obtain ⟨⟨a0, a1, a2, a3, a4, a5, a6, a7, a8, a9, a10⟩, ⟨xo, xa, xb⟩, cn, ce⟩ := s
  obtain ⟨id, tn, pg, pc, un, k0, k1, k2, k3, st, rn⟩ := t
  unfold tc vI at CS
  unfold tc Ret2 at CL
  unfold tc
  dsimp only at *
  have hb2 : ¬ (200 : Int) < n := by omega
  have e1 : (le != 0) = true := by simpa using he
  clear he
  obtain ⟨kb0, hb0⟩ := lies1 w #[.int .i64 id, .int .i64 tn, .int .i64 pg, .int .i64 pc, .int .i64 un, .int .i64 k0, .int .i64 k1, .int .i64 k2, .int .i64 k3, .int .i64 st, .int .i64 rn] 24
  obtain ⟨V, hV⟩ : ∃ V, w.alloc (.cells #[.int .i64 id, .int .i64 tn, .int .i64 pg, .int .i64 pc, .int .i64 un, .int .i64 k0, .int .i64 k1, .int .i64 k2, .int .i64 k3, .int .i64 st, .int .i64 rn] 24) = V := ⟨_, rfl⟩
  rw [hV] at hb0 kb0
  have HV := Lib.hid hV
  have BB := Lib.hid hb0
  have Kt := Lib.hid kb0
  have HBt : Hid (w.heap.size ≤ w.heap.size) := Lib.hid (by omega)
  clear hV hb0 kb0
  go_enter Tryd.func8, Tryd.ntmps8
  go_upto_region 1 with fail
  rw [HV.out]
  clear HV
  go_wp2_with fail
  refine (live_any _ (HF.out.le BB.out)).mono ?_
  rintro e U1 ⟨rfl, bU1⟩
  replace BB := Lib.hid (below3 BB.out bU1)
  replace Kt := Lib.hid (Kt.out.below bU1 Kt.out.lt)
  clear bU1
  obtain ⟨qt_0, qt_1, qt_2, qt_3, qt_4, qt_5, qt_6, qt_7, qt_8, qt_9, qt_10⟩ := Kt.out.c11
  have lt := Kt.out.lt
  go_wp2_with fail
  refine (CL.out _ BB.out).mono ?_
  rintro e U2 ⟨rfl, bU2⟩
  clear qt_0 qt_1 qt_2 qt_3 qt_4 qt_5 qt_6 qt_7 qt_8 qt_9 qt_10 lt
  replace BB := Lib.hid (below3 BB.out bU2)
  replace Kt := Lib.hid (Kt.out.below bU2 Kt.out.lt)
  clear bU2
  obtain ⟨qt_0, qt_1, qt_2, qt_3, qt_4, qt_5, qt_6, qt_7, qt_8, qt_9, qt_10⟩ := Kt.out.c11
  have lt := Kt.out.lt
  go_wp2_with fail
  refine (CS.out _ BB.out).mono ?_
  rintro e U3 ⟨rfl, bU3⟩
  clear qt_0 qt_1 qt_2 qt_3 qt_4 qt_5 qt_6 qt_7 qt_8 qt_9 qt_10 lt
  replace BB := Lib.hid (below3 BB.out bU3)
  replace Kt := Lib.hid (Kt.out.below bU3 Kt.out.lt)
  clear bU3
  obtain ⟨kn, km, ba⟩ := lies2 U3 #[.int .i64 a0, .int .i64 a1, .int .i64 a2, .int .i64 a3, .int .i64 a4, .int .i64 a5, .int .i64 a6, .int .i64 a7, .int .i64 a8, .int .i64 a9, .int .i64 a10] #[.int .i64 xo, .int .i64 xa, .int .i64 xb] 24 28
  have hgb := BB.out.size
  have nt_a := Kt.out.lt
  replace BB := Lib.hid (below3 BB.out ba)
  replace Kt := Lib.hid (Kt.out.below ba Kt.out.lt)
  obtain ⟨ga, hg⟩ : ∃ g, U3.heap.size = g := ⟨_, rfl⟩
  obtain ⟨V4, hW⟩ : ∃ W, (U3.alloc (.cells #[.int .i64 a0, .int .i64 a1, .int .i64 a2, .int .i64 a3, .int .i64 a4, .int .i64 a5, .int .i64 a6, .int .i64 a7, .int .i64 a8, .int .i64 a9, .int .i64 a10] 24)).alloc (.cells #[.int .i64 xo, .int .i64 xa, .int .i64 xb] 28) = W := ⟨_, rfl⟩
  rw [hW] at BB kn km Kt
  rw [hg] at kn km hgb nt_a
  have Ka := Lib.hid kn
  have Kx := Lib.hid km
  have HGa := Lib.hid hg
  have HWa := Lib.hid hW
  have HBa := Lib.hid hgb
  have HBx : Hid (w.heap.size ≤ ga + 1) := Lib.hid (by omega)
  have Na_x : Hid (ga ≠ ga + 1) := Lib.hid (by omega)
  have Nt_a : Hid (w.heap.size ≠ ga) := Lib.hid (by omega)
  have Nt_x : Hid (w.heap.size ≠ ga + 1) := Lib.hid (by omega)
  clear hW hg kn km ba hgb nt_a
  go_upto_region 8 with fail
  rw [HWa.out]
  try rw [HGa.out]
  clear HWa HGa
  go_wp2
  go_ret
  exact ⟨rfl, BB.out⟩

set_option maxRecDepth 100000 in
set_option maxHeartbeats 8000000 in
theorem lbudget_3 (t : Tk) (A : Option Addr) (n c : Nat) (p : List I3) (b : Int) (w : World) (hp : Prog w A n c p) (hF : Fol w) (hb : ¬ 200 < n) (he : (leftR t p).2 = 0) (hc : (sliceR t p b).2.2.2 ≠ 0) : Calls Tryd.prog 8 #[.agg (tc t), .slice A n c, .int .i64 b] w (TrueAns w) := by
  have HP := Lib.hid hp
  have HN := Lib.hid hp.1
  have hn := Nat.le_trans hp.2.1.1 hp.2.1.2
  have HF := Lib.hid hF
  clear hp hF
  have CL := Lib.hid (fun (W : World) (hbw : Below w.heap.size w W) => left_any t A n c p W (HP.out.below hbw))
  have CS := Lib.hid (fun (W : World) (hbw : Below w.heap.size w W) => slice_any t A n c p b W (HP.out.below hbw))
  generalize leftR t p = l at *
  generalize sliceR t p b = s at *
  obtain ⟨lv, le⟩ := l
  obtain ⟨⟨a0, a1, a2, a3, a4, a5, a6, a7, a8, a9, a10⟩, ⟨xo, xa, xb⟩, cn, ce⟩ := s
  obtain ⟨id, tn, pg, pc, un, k0, k1, k2, k3, st, rn⟩ := t
  unfold tc vI at CS
  unfold tc Ret2 at CL
  unfold tc
  dsimp only at *
  have hb2 : ¬ (200 : Int) < n := by omega
  have e1 : (le != 0) = false := by simpa using he
  have e2 : (ce != 0) = true := by simpa using hc
  clear he hc
  obtain ⟨kb0, hb0⟩ := lies1 w #[.int .i64 id, .int .i64 tn, .int .i64 pg, .int .i64 pc, .int .i64 un, .int .i64 k0, .int .i64 k1, .int .i64 k2, .int .i64 k3, .int .i64 st, .int .i64 rn] 24
  obtain ⟨V, hV⟩ : ∃ V, w.alloc (.cells #[.int .i64 id, .int .i64 tn, .int .i64 pg, .int .i64 pc, .int .i64 un, .int .i64 k0, .int .i64 k1, .int .i64 k2, .int .i64 k3, .int .i64 st, .int .i64 rn] 24) = V := ⟨_, rfl⟩
  rw [hV] at hb0 kb0
  have HV := Lib.hid hV
  have BB := Lib.hid hb0
  have Kt := Lib.hid kb0
  have HBt : Hid (w.heap.size ≤ w.heap.size) := Lib.hid (by omega)
  clear hV hb0 kb0
  go_enter Tryd.func8, Tryd.ntmps8
  go_upto_region 1 with fail
  rw [HV.out]
  clear HV
  go_wp2_with fail
  refine (live_any _ (HF.out.le BB.out)).mono ?_
  rintro e U1 ⟨rfl, bU1⟩
  replace BB := Lib.hid (below3 BB.out bU1)
  replace Kt := Lib.hid (Kt.out.below bU1 Kt.out.lt)
  clear bU1
  obtain ⟨qt_0, qt_1, qt_2, qt_3, qt_4, qt_5, qt_6, qt_7, qt_8, qt_9, qt_10⟩ := Kt.out.c11
  have lt := Kt.out.lt
  go_wp2_with fail
  refine (CL.out _ BB.out).mono ?_
  rintro e U2 ⟨rfl, bU2⟩
  clear qt_0 qt_1 qt_2 qt_3 qt_4 qt_5 qt_6 qt_7 qt_8 qt_9 qt_10 lt
  replace BB := Lib.hid (below3 BB.out bU2)
  replace Kt := Lib.hid (Kt.out.below bU2 Kt.out.lt)
  clear bU2
  obtain ⟨qt_0, qt_1, qt_2, qt_3, qt_4, qt_5, qt_6, qt_7, qt_8, qt_9, qt_10⟩ := Kt.out.c11
  have lt := Kt.out.lt
  go_wp2_with fail
  refine (CS.out _ BB.out).mono ?_
  rintro e U3 ⟨rfl, bU3⟩
  clear qt_0 qt_1 qt_2 qt_3 qt_4 qt_5 qt_6 qt_7 qt_8 qt_9 qt_10 lt
  replace BB := Lib.hid (below3 BB.out bU3)
  replace Kt := Lib.hid (Kt.out.below bU3 Kt.out.lt)
  clear bU3
  obtain ⟨kn, km, ba⟩ := lies2 U3 #[.int .i64 a0, .int .i64 a1, .int .i64 a2, .int .i64 a3, .int .i64 a4, .int .i64 a5, .int .i64 a6, .int .i64 a7, .int .i64 a8, .int .i64 a9, .int .i64 a10] #[.int .i64 xo, .int .i64 xa, .int .i64 xb] 24 28
  have hgb := BB.out.size
  have nt_a := Kt.out.lt
  replace BB := Lib.hid (below3 BB.out ba)
  replace Kt := Lib.hid (Kt.out.below ba Kt.out.lt)
  obtain ⟨ga, hg⟩ : ∃ g, U3.heap.size = g := ⟨_, rfl⟩
  obtain ⟨V4, hW⟩ : ∃ W, (U3.alloc (.cells #[.int .i64 a0, .int .i64 a1, .int .i64 a2, .int .i64 a3, .int .i64 a4, .int .i64 a5, .int .i64 a6, .int .i64 a7, .int .i64 a8, .int .i64 a9, .int .i64 a10] 24)).alloc (.cells #[.int .i64 xo, .int .i64 xa, .int .i64 xb] 28) = W := ⟨_, rfl⟩
  rw [hW] at BB kn km Kt
  rw [hg] at kn km hgb nt_a
  have Ka := Lib.hid kn
  have Kx := Lib.hid km
  have HGa := Lib.hid hg
  have HWa := Lib.hid hW
  have HBa := Lib.hid hgb
  have HBx : Hid (w.heap.size ≤ ga + 1) := Lib.hid (by omega)
  have Na_x : Hid (ga ≠ ga + 1) := Lib.hid (by omega)
  have Nt_a : Hid (w.heap.size ≠ ga) := Lib.hid (by omega)
  have Nt_x : Hid (w.heap.size ≠ ga + 1) := Lib.hid (by omega)
  clear hW hg kn km ba hgb nt_a
  go_upto_region 8 with fail
  rw [HWa.out]
  try rw [HGa.out]
  clear HWa HGa
  go_wp2
  go_ret
  exact ⟨rfl, BB.out⟩

set_option maxRecDepth 100000 in
set_option maxHeartbeats 8000000 in
theorem lbudget_4 (t : Tk) (A : Option Addr) (n c : Nat) (p : List I3) (b : Int) (w : World) (hp : Prog w A n c p) (hF : Fol w) (hb : ¬ 200 < n) (he : (leftR t p).2 = 0) (hc : (sliceR t p b).2.2.2 = 0) (hx : (sliceR t p b).2.1.1 ≠ 0) : Calls Tryd.prog 8 #[.agg (tc t), .slice A n c, .int .i64 b] w (TrueAns w) := by
  have HP := Lib.hid hp
  have HN := Lib.hid hp.1
  have hn := Nat.le_trans hp.2.1.1 hp.2.1.2
  have HF := Lib.hid hF
  clear hp hF
  obtain ⟨h, m, cn, rfl, hm1, hm2, hs1, hs2, hs3, hs4, hs5, hs6, hs7⟩ := slice_left he hc
  have hl1 := leftV_le h
  have hl0 := leftV_nonneg h
  have hrb : 0 ≤ t.rn ∧ t.rn ≤ 1099511627776 := by obtain ⟨_, _, _, _, _, _, q1, q2, _⟩ := h.num; exact ⟨q1, q2⟩
  have CL := Lib.hid (fun (W : World) (hbw : Below w.heap.size w W) => leftR_ok h ▸ left_any t A n c p W (HP.out.below hbw))
  have CS := Lib.hid (fun (W : World) (hbw : Below w.heap.size w W) => slice_any t A n c p m W (HP.out.below hbw))
  have CM := Lib.hid (fun (W : World) (hbw : Below w.heap.size w W) => leftR_ok hs4 ▸ left_any (sliceR t p m).1 A n c p W (HP.out.below hbw))
  rw [hs5] at CM
  clear h hs4 hs5
  generalize leftV t p = lv at *
  generalize sliceR t p m = s at *
  obtain ⟨⟨a0, a1, a2, a3, a4, a5, a6, a7, a8, a9, a10⟩, ⟨xo, xa, xb⟩, cn2, ce⟩ := s
  obtain ⟨id, tn, pg, pc, un, k0, k1, k2, k3, st, rn⟩ := t
  unfold tc vI at CS
  unfold tc Ret2 at CL CM
  unfold tc
  dsimp only at *
  clear he
  subst hc hs3 hs6
  have hb2 : ¬ (200 : Int) < n := by omega
  have e2 : (xo != 0) = true := by simpa using hx
  clear hx hs7
  have g1 : (1 : Int) ≤ (cn : Int) := by omega
  have g2 : (cn : Int) ≤ (m : Int) := by omega
  obtain ⟨kb0, hb0⟩ := lies1 w #[.int .i64 id, .int .i64 tn, .int .i64 pg, .int .i64 pc, .int .i64 un, .int .i64 k0, .int .i64 k1, .int .i64 k2, .int .i64 k3, .int .i64 st, .int .i64 rn] 24
  obtain ⟨V, hV⟩ : ∃ V, w.alloc (.cells #[.int .i64 id, .int .i64 tn, .int .i64 pg, .int .i64 pc, .int .i64 un, .int .i64 k0, .int .i64 k1, .int .i64 k2, .int .i64 k3, .int .i64 st, .int .i64 rn] 24) = V := ⟨_, rfl⟩
  rw [hV] at hb0 kb0
  have HV := Lib.hid hV
  have BB := Lib.hid hb0
  have Kt := Lib.hid kb0
  have HBt : Hid (w.heap.size ≤ w.heap.size) := Lib.hid (by omega)
  clear hV hb0 kb0
  go_enter Tryd.func8, Tryd.ntmps8
  go_upto_region 1 with fail
  rw [HV.out]
  clear HV
  go_wp2_with fail
  refine (live_any _ (HF.out.le BB.out)).mono ?_
  rintro e U1 ⟨rfl, bU1⟩
  replace BB := Lib.hid (below3 BB.out bU1)
  replace Kt := Lib.hid (Kt.out.below bU1 Kt.out.lt)
  clear bU1
  obtain ⟨qt_0, qt_1, qt_2, qt_3, qt_4, qt_5, qt_6, qt_7, qt_8, qt_9, qt_10⟩ := Kt.out.c11
  have lt := Kt.out.lt
  go_wp2_with fail
  refine (CL.out _ BB.out).mono ?_
  rintro e U2 ⟨rfl, bU2⟩
  clear qt_0 qt_1 qt_2 qt_3 qt_4 qt_5 qt_6 qt_7 qt_8 qt_9 qt_10 lt
  replace BB := Lib.hid (below3 BB.out bU2)
  replace Kt := Lib.hid (Kt.out.below bU2 Kt.out.lt)
  clear bU2
  obtain ⟨qt_0, qt_1, qt_2, qt_3, qt_4, qt_5, qt_6, qt_7, qt_8, qt_9, qt_10⟩ := Kt.out.c11
  have lt := Kt.out.lt
  go_wp2_with fail
  refine (CS.out _ BB.out).mono ?_
  rintro e U3 ⟨rfl, bU3⟩
  clear qt_0 qt_1 qt_2 qt_3 qt_4 qt_5 qt_6 qt_7 qt_8 qt_9 qt_10 lt
  replace BB := Lib.hid (below3 BB.out bU3)
  replace Kt := Lib.hid (Kt.out.below bU3 Kt.out.lt)
  clear bU3
  obtain ⟨kn, km, ba⟩ := lies2 U3 #[.int .i64 a0, .int .i64 a1, .int .i64 a2, .int .i64 a3, .int .i64 a4, .int .i64 a5, .int .i64 a6, .int .i64 a7, .int .i64 a8, .int .i64 a9, .int .i64 (rn + cn)] #[.int .i64 xo, .int .i64 xa, .int .i64 xb] 24 28
  have hgb := BB.out.size
  have nt_a := Kt.out.lt
  replace BB := Lib.hid (below3 BB.out ba)
  replace Kt := Lib.hid (Kt.out.below ba Kt.out.lt)
  obtain ⟨ga, hg⟩ : ∃ g, U3.heap.size = g := ⟨_, rfl⟩
  obtain ⟨V4, hW⟩ : ∃ W, (U3.alloc (.cells #[.int .i64 a0, .int .i64 a1, .int .i64 a2, .int .i64 a3, .int .i64 a4, .int .i64 a5, .int .i64 a6, .int .i64 a7, .int .i64 a8, .int .i64 a9, .int .i64 (rn + cn)] 24)).alloc (.cells #[.int .i64 xo, .int .i64 xa, .int .i64 xb] 28) = W := ⟨_, rfl⟩
  rw [hW] at BB kn km Kt
  rw [hg] at kn km hgb nt_a
  have Ka := Lib.hid kn
  have Kx := Lib.hid km
  have HGa := Lib.hid hg
  have HWa := Lib.hid hW
  have HBa := Lib.hid hgb
  have HBx : Hid (w.heap.size ≤ ga + 1) := Lib.hid (by omega)
  have Na_x : Hid (ga ≠ ga + 1) := Lib.hid (by omega)
  have Nt_a : Hid (w.heap.size ≠ ga) := Lib.hid (by omega)
  have Nt_x : Hid (w.heap.size ≠ ga + 1) := Lib.hid (by omega)
  clear hW hg kn km ba hgb nt_a
  go_upto_region 10 with fail
  rw [HWa.out]
  try rw [HGa.out]
  clear HWa HGa
  obtain ⟨qa_0, qa_1, qa_2, qa_3, qa_4, qa_5, qa_6, qa_7, qa_8, qa_9, qa_10⟩ := Ka.out.c11
  have la := Ka.out.lt
  go_wp2_with fail
  refine (CM.out _ BB.out).mono ?_
  rintro e U5 ⟨rfl, bU5⟩
  clear qa_0 qa_1 qa_2 qa_3 qa_4 qa_5 qa_6 qa_7 qa_8 qa_9 qa_10 la
  replace BB := Lib.hid (below3 BB.out bU5)
  replace Kt := Lib.hid (Kt.out.below bU5 Kt.out.lt)
  replace Ka := Lib.hid (Ka.out.below bU5 Ka.out.lt)
  replace Kx := Lib.hid (Kx.out.below bU5 Kx.out.lt)
  clear bU5
  obtain ⟨qt_0, qt_1, qt_2, qt_3, qt_4, qt_5, qt_6, qt_7, qt_8, qt_9, qt_10⟩ := Kt.out.c11
  have lt := Kt.out.lt
  obtain ⟨qa_0, qa_1, qa_2, qa_3, qa_4, qa_5, qa_6, qa_7, qa_8, qa_9, qa_10⟩ := Ka.out.c11
  have la := Ka.out.lt
  obtain ⟨qx_0, qx_1, qx_2⟩ := Kx.out.c3
  have lx := Kx.out.lt
  go_wp2
  go_ret
  exact ⟨rfl, BB.out⟩

set_option maxRecDepth 100000 in
set_option maxHeartbeats 8000000 in
theorem lbudget_5 (t : Tk) (A : Option Addr) (n c : Nat) (p : List I3) (b : Int) (w : World) (hp : Prog w A n c p) (hF : Fol w) (hb : ¬ 200 < n) (he : (leftR t p).2 = 0) (hc : (sliceR t p b).2.2.2 = 0) (hx : (sliceR t p b).2.1.1 = 0) : Calls Tryd.prog 8 #[.agg (tc t), .slice A n c, .int .i64 b] w (TrueAns w) := by
  have HP := Lib.hid hp
  have HN := Lib.hid hp.1
  have hn := Nat.le_trans hp.2.1.1 hp.2.1.2
  have HF := Lib.hid hF
  clear hp hF
  obtain ⟨h, m, cn, rfl, hm1, hm2, hs1, hs2, hs3, hs4, hs5, hs6, hs7⟩ := slice_left he hc
  have hl1 := leftV_le h
  have hl0 := leftV_nonneg h
  have hrb : 0 ≤ t.rn ∧ t.rn ≤ 1099511627776 := by obtain ⟨_, _, _, _, _, _, q1, q2, _⟩ := h.num; exact ⟨q1, q2⟩
  have CL := Lib.hid (fun (W : World) (hbw : Below w.heap.size w W) => leftR_ok h ▸ left_any t A n c p W (HP.out.below hbw))
  have CS := Lib.hid (fun (W : World) (hbw : Below w.heap.size w W) => slice_any t A n c p m W (HP.out.below hbw))
  have CM := Lib.hid (fun (W : World) (hbw : Below w.heap.size w W) => leftR_ok hs4 ▸ left_any (sliceR t p m).1 A n c p W (HP.out.below hbw))
  rw [hs5] at CM
  clear h hs4 hs5
  generalize leftV t p = lv at *
  generalize sliceR t p m = s at *
  obtain ⟨⟨a0, a1, a2, a3, a4, a5, a6, a7, a8, a9, a10⟩, ⟨xo, xa, xb⟩, cn2, ce⟩ := s
  obtain ⟨id, tn, pg, pc, un, k0, k1, k2, k3, st, rn⟩ := t
  unfold tc vI at CS
  unfold tc Ret2 at CL CM
  unfold tc
  dsimp only at *
  clear he
  subst hc hs3 hs6
  have hb2 : ¬ (200 : Int) < n := by omega
  subst hx
  obtain rfl : m = cn := by omega
  clear hs7
  have g1 : (1 : Int) ≤ (m : Int) := by omega
  obtain ⟨kb0, hb0⟩ := lies1 w #[.int .i64 id, .int .i64 tn, .int .i64 pg, .int .i64 pc, .int .i64 un, .int .i64 k0, .int .i64 k1, .int .i64 k2, .int .i64 k3, .int .i64 st, .int .i64 rn] 24
  obtain ⟨V, hV⟩ : ∃ V, w.alloc (.cells #[.int .i64 id, .int .i64 tn, .int .i64 pg, .int .i64 pc, .int .i64 un, .int .i64 k0, .int .i64 k1, .int .i64 k2, .int .i64 k3, .int .i64 st, .int .i64 rn] 24) = V := ⟨_, rfl⟩
  rw [hV] at hb0 kb0
  have HV := Lib.hid hV
  have BB := Lib.hid hb0
  have Kt := Lib.hid kb0
  have HBt : Hid (w.heap.size ≤ w.heap.size) := Lib.hid (by omega)
  clear hV hb0 kb0
  go_enter Tryd.func8, Tryd.ntmps8
  go_upto_region 1 with fail
  rw [HV.out]
  clear HV
  go_wp2_with fail
  refine (live_any _ (HF.out.le BB.out)).mono ?_
  rintro e U1 ⟨rfl, bU1⟩
  replace BB := Lib.hid (below3 BB.out bU1)
  replace Kt := Lib.hid (Kt.out.below bU1 Kt.out.lt)
  clear bU1
  obtain ⟨qt_0, qt_1, qt_2, qt_3, qt_4, qt_5, qt_6, qt_7, qt_8, qt_9, qt_10⟩ := Kt.out.c11
  have lt := Kt.out.lt
  go_wp2_with fail
  refine (CL.out _ BB.out).mono ?_
  rintro e U2 ⟨rfl, bU2⟩
  clear qt_0 qt_1 qt_2 qt_3 qt_4 qt_5 qt_6 qt_7 qt_8 qt_9 qt_10 lt
  replace BB := Lib.hid (below3 BB.out bU2)
  replace Kt := Lib.hid (Kt.out.below bU2 Kt.out.lt)
  clear bU2
  obtain ⟨qt_0, qt_1, qt_2, qt_3, qt_4, qt_5, qt_6, qt_7, qt_8, qt_9, qt_10⟩ := Kt.out.c11
  have lt := Kt.out.lt
  go_wp2_with fail
  refine (CS.out _ BB.out).mono ?_
  rintro e U3 ⟨rfl, bU3⟩
  clear qt_0 qt_1 qt_2 qt_3 qt_4 qt_5 qt_6 qt_7 qt_8 qt_9 qt_10 lt
  replace BB := Lib.hid (below3 BB.out bU3)
  replace Kt := Lib.hid (Kt.out.below bU3 Kt.out.lt)
  clear bU3
  obtain ⟨kn, km, ba⟩ := lies2 U3 #[.int .i64 a0, .int .i64 a1, .int .i64 a2, .int .i64 a3, .int .i64 a4, .int .i64 a5, .int .i64 a6, .int .i64 a7, .int .i64 a8, .int .i64 a9, .int .i64 (rn + m)] #[.int .i64 0, .int .i64 xa, .int .i64 xb] 24 28
  have hgb := BB.out.size
  have nt_a := Kt.out.lt
  replace BB := Lib.hid (below3 BB.out ba)
  replace Kt := Lib.hid (Kt.out.below ba Kt.out.lt)
  obtain ⟨ga, hg⟩ : ∃ g, U3.heap.size = g := ⟨_, rfl⟩
  obtain ⟨V4, hW⟩ : ∃ W, (U3.alloc (.cells #[.int .i64 a0, .int .i64 a1, .int .i64 a2, .int .i64 a3, .int .i64 a4, .int .i64 a5, .int .i64 a6, .int .i64 a7, .int .i64 a8, .int .i64 a9, .int .i64 (rn + m)] 24)).alloc (.cells #[.int .i64 0, .int .i64 xa, .int .i64 xb] 28) = W := ⟨_, rfl⟩
  rw [hW] at BB kn km Kt
  rw [hg] at kn km hgb nt_a
  have Ka := Lib.hid kn
  have Kx := Lib.hid km
  have HGa := Lib.hid hg
  have HWa := Lib.hid hW
  have HBa := Lib.hid hgb
  have HBx : Hid (w.heap.size ≤ ga + 1) := Lib.hid (by omega)
  have Na_x : Hid (ga ≠ ga + 1) := Lib.hid (by omega)
  have Nt_a : Hid (w.heap.size ≠ ga) := Lib.hid (by omega)
  have Nt_x : Hid (w.heap.size ≠ ga + 1) := Lib.hid (by omega)
  clear hW hg kn km ba hgb nt_a
  go_upto_region 10 with fail
  rw [HWa.out]
  try rw [HGa.out]
  clear HWa HGa
  obtain ⟨qa_0, qa_1, qa_2, qa_3, qa_4, qa_5, qa_6, qa_7, qa_8, qa_9, qa_10⟩ := Ka.out.c11
  have la := Ka.out.lt
  go_wp2_with fail
  refine (CM.out _ BB.out).mono ?_
  rintro e U5 ⟨rfl, bU5⟩
  clear qa_0 qa_1 qa_2 qa_3 qa_4 qa_5 qa_6 qa_7 qa_8 qa_9 qa_10 la
  replace BB := Lib.hid (below3 BB.out bU5)
  replace Kt := Lib.hid (Kt.out.below bU5 Kt.out.lt)
  replace Ka := Lib.hid (Ka.out.below bU5 Ka.out.lt)
  replace Kx := Lib.hid (Kx.out.below bU5 Kx.out.lt)
  clear bU5
  obtain ⟨qt_0, qt_1, qt_2, qt_3, qt_4, qt_5, qt_6, qt_7, qt_8, qt_9, qt_10⟩ := Kt.out.c11
  have lt := Kt.out.lt
  obtain ⟨qa_0, qa_1, qa_2, qa_3, qa_4, qa_5, qa_6, qa_7, qa_8, qa_9, qa_10⟩ := Ka.out.c11
  have la := Ka.out.lt
  obtain ⟨qx_0, qx_1, qx_2⟩ := Kx.out.c3
  have lx := Kx.out.lt
  go_wp2
  go_ret
  exact ⟨rfl, BB.out⟩

theorem lbudget_any (t : Tk) (A : Option Addr) (n c : Nat) (p : List I3) (b : Int) (w : World) (hp : Prog w A n c p) (hF : Fol w) : Calls Tryd.prog 8 #[.agg (tc t), .slice A n c, .int .i64 b] w (TrueAns w) := by
  by_cases hb : 200 < n
  · exact lbudget_1 t A n c p b w hp hF hb
  · by_cases he : (leftR t p).2 = 0
    · by_cases hc : (sliceR t p b).2.2.2 = 0
      · by_cases hx : (sliceR t p b).2.1.1 = 0
        · exact lbudget_5 t A n c p b w hp hF hb he hc hx
        · exact lbudget_4 t A n c p b w hp hF hb he hc hx
      · exact lbudget_3 t A n c p b w hp hF hb he hc
    · exact lbudget_2 t A n c p b w hp hF hb he

end Go.Proofs.YtlbmlhcphoiaeaaDoor

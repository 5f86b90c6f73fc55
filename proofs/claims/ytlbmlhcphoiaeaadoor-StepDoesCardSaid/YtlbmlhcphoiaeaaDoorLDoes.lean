/-
  The walk of the law StepDoes of layer 13.
-/
import Derived.Test.YtlbmlhcphoiaeaaDoorSto
import Derived.Test.YtlbmlhcphoiaeaaDoorSth
import Derived.Test.YtlbmlhcphoiaeaaDoorTkj
namespace Go.Proofs.YtlbmlhcphoiaeaaDoor
open Go.RowKit

set_option maxRecDepth 100000 in
set_option maxHeartbeats 8000000 in
theorem ldoes_1 (t : Tk) (A : Option Addr) (n c : Nat) (p : List I3) (b : Int) (w : World) (hp : Prog w A n c p) (hF : Fol w) (hb : 200 < n) : Calls Tryd.prog 3 #[.agg (tc t), .slice A n c, .int .i64 b] w (TrueAns w) := by
  have HP := Lib.hid hp
  have HN := Lib.hid hp.1
  have hn := Nat.le_trans hp.2.1.1 hp.2.1.2
  have HF := Lib.hid hF
  clear hp hF
  obtain ⟨id, tn, pg, pc, un, k0, k1, k2, k3, st, rn⟩ := t
  unfold tc
  dsimp only
  have h2 : (200 : Int) < n := by omega
  obtain ⟨kb0, hb0⟩ := lies1 w #[.int .i64 id, .int .i64 tn, .int .i64 pg, .int .i64 pc, .int .i64 un, .int .i64 k0, .int .i64 k1, .int .i64 k2, .int .i64 k3, .int .i64 st, .int .i64 rn] 24
  obtain ⟨V, hV⟩ : ∃ V, w.alloc (.cells #[.int .i64 id, .int .i64 tn, .int .i64 pg, .int .i64 pc, .int .i64 un, .int .i64 k0, .int .i64 k1, .int .i64 k2, .int .i64 k3, .int .i64 st, .int .i64 rn] 24) = V := ⟨_, rfl⟩
  rw [hV] at hb0 kb0
  have HV := Lib.hid hV
  have BB := Lib.hid hb0
  have Kt := Lib.hid kb0
  have HBt : Hid (w.heap.size ≤ w.heap.size) := Lib.hid (by omega)
  clear hV hb0 kb0
  go_enter Tryd.func3, Tryd.ntmps3
  go_upto_region 1 with fail
  rw [HV.out]
  clear HV
  go_wp2_with fail
  refine (live_any _ (HF.out.le BB.out)).mono ?_
  rintro e U1 ⟨rfl, bU1⟩
  replace BB := Lib.hid (below3 BB.out bU1)
  replace Kt := Lib.hid (Kt.out.below bU1 Kt.out.lt)
  clear bU1
  go_wp2
  go_ret
  exact ⟨rfl, BB.out⟩

set_option maxRecDepth 100000 in
set_option maxHeartbeats 16000000 in
theorem ldoes_2 (t : Tk) (A : Option Addr) (n c : Nat) (p : List I3) (b : Int) (w : World) (hp : Prog w A n c p) (hF : Fol w) (hb : ¬ 200 < n) : Calls Tryd.prog 3 #[.agg (tc t), .slice A n c, .int .i64 b] w (TrueAns w) := by
  have HP := Lib.hid hp
  have HN := Lib.hid hp.1
  have hn := Nat.le_trans hp.2.1.1 hp.2.1.2
  have HF := Lib.hid hF
  clear hp hF
  have C1 := Lib.hid (fun (W : World) (hbw : Below w.heap.size w W) => do_any t A n c p W (HP.out.below hbw))
  have C2 := Lib.hid (fun (W : World) (hbw : Below w.heap.size w W) => rdo_any t A n c p W (HP.out.below hbw))
  have C3 := Lib.hid (fun (W : World) (hbw : Below w.heap.size w W) => slice_any t A n c p b W (HP.out.below hbw))
  have C4 := Lib.hid (fun (W : World) (hbw : Below w.heap.size w W) => rslice_any t A n c p b W (HP.out.below hbw))
  have C5 := Lib.hid (fun (W : World) (hbw : Below w.heap.size w W) => left_any t A n c p W (HP.out.below hbw))
  have C6 := Lib.hid (fun (W : World) (hbw : Below w.heap.size w W) => rleft_any t A n c p W (HP.out.below hbw))
  have C7 := Lib.hid (fun (W : World) (hbw : Below w.heap.size w W) => next_any t A n c p W (HP.out.below hbw))
  have C8 := Lib.hid (fun (W : World) (hbw : Below w.heap.size w W) => rnext_any t A n c p W (HP.out.below hbw))
  generalize doR t p = d at *
  generalize sliceR t p b = s at *
  generalize leftR t p = l at *
  generalize nextR t p = x at *
  obtain ⟨⟨d0, d1, d2, d3, d4, d5, d6, d7, d8, d9, d10⟩, ⟨eo, ea, eb⟩, de⟩ := d
  obtain ⟨⟨s0, s1, s2, s3, s4, s5, s6, s7, s8, s9, s10⟩, ⟨fo, fa, fb⟩, sn, se⟩ := s
  obtain ⟨lv, le⟩ := l
  obtain ⟨⟨io, ia, ib⟩, ie⟩ := x
  obtain ⟨id, tn, pg, pc, un, k0, k1, k2, k3, st, rn⟩ := t
  unfold tc vI at C1 C2 C3 C4
  unfold tc vI at C7 C8
  unfold tc Ret2 at C5 C6
  unfold tc
  dsimp only at *
  have hb2 : ¬ (200 : Int) < n := by omega
  have E1 := eql_task ⟨d0, d1, d2, d3, d4, d5, d6, d7, d8, d9, d10⟩
  have E2 := eql_task ⟨s0, s1, s2, s3, s4, s5, s6, s7, s8, s9, s10⟩
  unfold tc at E1 E2
  dsimp only at E1 E2
  have HE1 := Lib.hid E1
  have HE2 := Lib.hid E2
  clear E1 E2
  obtain ⟨kb0, hb0⟩ := lies1 w #[.int .i64 id, .int .i64 tn, .int .i64 pg, .int .i64 pc, .int .i64 un, .int .i64 k0, .int .i64 k1, .int .i64 k2, .int .i64 k3, .int .i64 st, .int .i64 rn] 24
  obtain ⟨V, hV⟩ : ∃ V, w.alloc (.cells #[.int .i64 id, .int .i64 tn, .int .i64 pg, .int .i64 pc, .int .i64 un, .int .i64 k0, .int .i64 k1, .int .i64 k2, .int .i64 k3, .int .i64 st, .int .i64 rn] 24) = V := ⟨_, rfl⟩
  rw [hV] at hb0 kb0
  have HV := Lib.hid hV
  have BB := Lib.hid hb0
  have Kt := Lib.hid kb0
  have HBt : Hid (w.heap.size ≤ w.heap.size) := Lib.hid (by omega)
  clear hV hb0 kb0
  go_enter Tryd.func3, Tryd.ntmps3
  go_upto_region 1 with fail
  rw [HV.out]
  clear HV
  go_wp2_with fail
  refine (live_any _ (HF.out.le BB.out)).mono ?_
  rintro e U1 ⟨rfl, bU1⟩
  replace BB := Lib.hid (below3 BB.out bU1)
  replace Kt := Lib.hid (Kt.out.below bU1 Kt.out.lt)
  clear bU1
  obtain ⟨qt_0, qt_1, qt_2, qt_3, qt_4, qt_5, qt_6, qt_7, qt_8, qt_9, qt_10⟩ := Kt.out.c11
  have lt := Kt.out.lt
  go_wp2_with fail
  refine (C1.out _ BB.out).mono ?_
  rintro e U2 ⟨rfl, bU2⟩
  clear qt_0 qt_1 qt_2 qt_3 qt_4 qt_5 qt_6 qt_7 qt_8 qt_9 qt_10 lt
  replace BB := Lib.hid (below3 BB.out bU2)
  replace Kt := Lib.hid (Kt.out.below bU2 Kt.out.lt)
  clear bU2
  obtain ⟨kn, km, ba⟩ := lies2 U2 #[.int .i64 d0, .int .i64 d1, .int .i64 d2, .int .i64 d3, .int .i64 d4, .int .i64 d5, .int .i64 d6, .int .i64 d7, .int .i64 d8, .int .i64 d9, .int .i64 d10] #[.int .i64 eo, .int .i64 ea, .int .i64 eb] 24 28
  have hgb := BB.out.size
  have nt_a := Kt.out.lt
  replace BB := Lib.hid (below3 BB.out ba)
  replace Kt := Lib.hid (Kt.out.below ba Kt.out.lt)
  obtain ⟨ga, hg⟩ : ∃ g, U2.heap.size = g := ⟨_, rfl⟩
  obtain ⟨V3, hW⟩ : ∃ W, (U2.alloc (.cells #[.int .i64 d0, .int .i64 d1, .int .i64 d2, .int .i64 d3, .int .i64 d4, .int .i64 d5, .int .i64 d6, .int .i64 d7, .int .i64 d8, .int .i64 d9, .int .i64 d10] 24)).alloc (.cells #[.int .i64 eo, .int .i64 ea, .int .i64 eb] 28) = W := ⟨_, rfl⟩
  rw [hW] at BB kn km Kt
  rw [hg] at kn km hgb nt_a
  have Ka := Lib.hid kn
  have Ke := Lib.hid km
  have HGa := Lib.hid hg
  have HWa := Lib.hid hW
  have HBa := Lib.hid hgb
  have HBe : Hid (w.heap.size ≤ ga + 1) := Lib.hid (by omega)
  have Na_e : Hid (ga ≠ ga + 1) := Lib.hid (by omega)
  have Nt_a : Hid (w.heap.size ≠ ga) := Lib.hid (by omega)
  have Nt_e : Hid (w.heap.size ≠ ga + 1) := Lib.hid (by omega)
  clear hW hg kn km ba hgb nt_a
  go_upto_region 7 with fail
  rw [HWa.out]
  try rw [HGa.out]
  clear HWa HGa
  obtain ⟨qt_0, qt_1, qt_2, qt_3, qt_4, qt_5, qt_6, qt_7, qt_8, qt_9, qt_10⟩ := Kt.out.c11
  have lt := Kt.out.lt
  go_wp2_with fail
  refine (C2.out _ BB.out).mono ?_
  rintro e U4 ⟨rfl, bU4⟩
  clear qt_0 qt_1 qt_2 qt_3 qt_4 qt_5 qt_6 qt_7 qt_8 qt_9 qt_10 lt
  replace BB := Lib.hid (below3 BB.out bU4)
  replace Kt := Lib.hid (Kt.out.below bU4 Kt.out.lt)
  replace Ka := Lib.hid (Ka.out.below bU4 Ka.out.lt)
  replace Ke := Lib.hid (Ke.out.below bU4 Ke.out.lt)
  clear bU4
  obtain ⟨kn, km, ba⟩ := lies2 U4 #[.int .i64 d0, .int .i64 d1, .int .i64 d2, .int .i64 d3, .int .i64 d4, .int .i64 d5, .int .i64 d6, .int .i64 d7, .int .i64 d8, .int .i64 d9, .int .i64 d10] #[.int .i64 eo, .int .i64 ea, .int .i64 eb] 24 28
  have hgb := BB.out.size
  have nt_b := Kt.out.lt
  have na_b := Ka.out.lt
  have ne_b := Ke.out.lt
  replace BB := Lib.hid (below3 BB.out ba)
  replace Kt := Lib.hid (Kt.out.below ba Kt.out.lt)
  replace Ka := Lib.hid (Ka.out.below ba Ka.out.lt)
  replace Ke := Lib.hid (Ke.out.below ba Ke.out.lt)
  obtain ⟨gb, hg⟩ : ∃ g, U4.heap.size = g := ⟨_, rfl⟩
  obtain ⟨V5, hW⟩ : ∃ W, (U4.alloc (.cells #[.int .i64 d0, .int .i64 d1, .int .i64 d2, .int .i64 d3, .int .i64 d4, .int .i64 d5, .int .i64 d6, .int .i64 d7, .int .i64 d8, .int .i64 d9, .int .i64 d10] 24)).alloc (.cells #[.int .i64 eo, .int .i64 ea, .int .i64 eb] 28) = W := ⟨_, rfl⟩
  rw [hW] at BB kn km Kt Ka Ke
  rw [hg] at kn km hgb nt_b na_b ne_b
  have Kb := Lib.hid kn
  have Kf := Lib.hid km
  have HGa := Lib.hid hg
  have HWa := Lib.hid hW
  have HBb := Lib.hid hgb
  have HBf : Hid (w.heap.size ≤ gb + 1) := Lib.hid (by omega)
  have Nb_f : Hid (gb ≠ gb + 1) := Lib.hid (by omega)
  have Nt_b : Hid (w.heap.size ≠ gb) := Lib.hid (by omega)
  have Nt_f : Hid (w.heap.size ≠ gb + 1) := Lib.hid (by omega)
  have Na_b : Hid (ga ≠ gb) := Lib.hid (by omega)
  have Na_f : Hid (ga ≠ gb + 1) := Lib.hid (by omega)
  have Ne_b : Hid ((ga + 1) ≠ gb) := Lib.hid (by omega)
  have Ne_f : Hid ((ga + 1) ≠ gb + 1) := Lib.hid (by omega)
  clear hW hg kn km ba hgb nt_b na_b ne_b
  go_upto_region 8 with fail
  rw [HWa.out]
  try rw [HGa.out]
  clear HWa HGa
  obtain ⟨qt_0, qt_1, qt_2, qt_3, qt_4, qt_5, qt_6, qt_7, qt_8, qt_9, qt_10⟩ := Kt.out.c11
  have lt := Kt.out.lt
  go_wp2_with fail
  refine (C3.out _ BB.out).mono ?_
  rintro e U6 ⟨rfl, bU6⟩
  clear qt_0 qt_1 qt_2 qt_3 qt_4 qt_5 qt_6 qt_7 qt_8 qt_9 qt_10 lt
  replace BB := Lib.hid (below3 BB.out bU6)
  replace Kt := Lib.hid (Kt.out.below bU6 Kt.out.lt)
  replace Ka := Lib.hid (Ka.out.below bU6 Ka.out.lt)
  replace Ke := Lib.hid (Ke.out.below bU6 Ke.out.lt)
  replace Kb := Lib.hid (Kb.out.below bU6 Kb.out.lt)
  replace Kf := Lib.hid (Kf.out.below bU6 Kf.out.lt)
  clear bU6
  obtain ⟨kn, km, ba⟩ := lies2 U6 #[.int .i64 s0, .int .i64 s1, .int .i64 s2, .int .i64 s3, .int .i64 s4, .int .i64 s5, .int .i64 s6, .int .i64 s7, .int .i64 s8, .int .i64 s9, .int .i64 s10] #[.int .i64 fo, .int .i64 fa, .int .i64 fb] 24 28
  have hgb := BB.out.size
  have nt_g := Kt.out.lt
  have na_g := Ka.out.lt
  have ne_g := Ke.out.lt
  have nb_g := Kb.out.lt
  have nf_g := Kf.out.lt
  replace BB := Lib.hid (below3 BB.out ba)
  replace Kt := Lib.hid (Kt.out.below ba Kt.out.lt)
  replace Ka := Lib.hid (Ka.out.below ba Ka.out.lt)
  replace Ke := Lib.hid (Ke.out.below ba Ke.out.lt)
  replace Kb := Lib.hid (Kb.out.below ba Kb.out.lt)
  replace Kf := Lib.hid (Kf.out.below ba Kf.out.lt)
  obtain ⟨gg, hg⟩ : ∃ g, U6.heap.size = g := ⟨_, rfl⟩
  obtain ⟨V7, hW⟩ : ∃ W, (U6.alloc (.cells #[.int .i64 s0, .int .i64 s1, .int .i64 s2, .int .i64 s3, .int .i64 s4, .int .i64 s5, .int .i64 s6, .int .i64 s7, .int .i64 s8, .int .i64 s9, .int .i64 s10] 24)).alloc (.cells #[.int .i64 fo, .int .i64 fa, .int .i64 fb] 28) = W := ⟨_, rfl⟩
  rw [hW] at BB kn km Kt Ka Ke Kb Kf
  rw [hg] at kn km hgb nt_g na_g ne_g nb_g nf_g
  have Kg := Lib.hid kn
  have Kh := Lib.hid km
  have HGa := Lib.hid hg
  have HWa := Lib.hid hW
  have HBg := Lib.hid hgb
  have HBh : Hid (w.heap.size ≤ gg + 1) := Lib.hid (by omega)
  have Ng_h : Hid (gg ≠ gg + 1) := Lib.hid (by omega)
  have Nt_g : Hid (w.heap.size ≠ gg) := Lib.hid (by omega)
  have Nt_h : Hid (w.heap.size ≠ gg + 1) := Lib.hid (by omega)
  have Na_g : Hid (ga ≠ gg) := Lib.hid (by omega)
  have Na_h : Hid (ga ≠ gg + 1) := Lib.hid (by omega)
  have Ne_g : Hid ((ga + 1) ≠ gg) := Lib.hid (by omega)
  have Ne_h : Hid ((ga + 1) ≠ gg + 1) := Lib.hid (by omega)
  have Nb_g : Hid (gb ≠ gg) := Lib.hid (by omega)
  have Nb_h : Hid (gb ≠ gg + 1) := Lib.hid (by omega)
  have Nf_g : Hid ((gb + 1) ≠ gg) := Lib.hid (by omega)
  have Nf_h : Hid ((gb + 1) ≠ gg + 1) := Lib.hid (by omega)
  clear hW hg kn km ba hgb nt_g na_g ne_g nb_g nf_g
  go_upto_region 9 with fail
  rw [HWa.out]
  try rw [HGa.out]
  clear HWa HGa
  obtain ⟨qt_0, qt_1, qt_2, qt_3, qt_4, qt_5, qt_6, qt_7, qt_8, qt_9, qt_10⟩ := Kt.out.c11
  have lt := Kt.out.lt
  go_wp2_with fail
  refine (C4.out _ BB.out).mono ?_
  rintro e U8 ⟨rfl, bU8⟩
  clear qt_0 qt_1 qt_2 qt_3 qt_4 qt_5 qt_6 qt_7 qt_8 qt_9 qt_10 lt
  replace BB := Lib.hid (below3 BB.out bU8)
  replace Kt := Lib.hid (Kt.out.below bU8 Kt.out.lt)
  replace Ka := Lib.hid (Ka.out.below bU8 Ka.out.lt)
  replace Ke := Lib.hid (Ke.out.below bU8 Ke.out.lt)
  replace Kb := Lib.hid (Kb.out.below bU8 Kb.out.lt)
  replace Kf := Lib.hid (Kf.out.below bU8 Kf.out.lt)
  replace Kg := Lib.hid (Kg.out.below bU8 Kg.out.lt)
  replace Kh := Lib.hid (Kh.out.below bU8 Kh.out.lt)
  clear bU8
  obtain ⟨kn, km, ba⟩ := lies2 U8 #[.int .i64 s0, .int .i64 s1, .int .i64 s2, .int .i64 s3, .int .i64 s4, .int .i64 s5, .int .i64 s6, .int .i64 s7, .int .i64 s8, .int .i64 s9, .int .i64 s10] #[.int .i64 fo, .int .i64 fa, .int .i64 fb] 24 28
  have hgb := BB.out.size
  have nt_k := Kt.out.lt
  have na_k := Ka.out.lt
  have ne_k := Ke.out.lt
  have nb_k := Kb.out.lt
  have nf_k := Kf.out.lt
  have ng_k := Kg.out.lt
  have nh_k := Kh.out.lt
  replace BB := Lib.hid (below3 BB.out ba)
  replace Kt := Lib.hid (Kt.out.below ba Kt.out.lt)
  replace Ka := Lib.hid (Ka.out.below ba Ka.out.lt)
  replace Ke := Lib.hid (Ke.out.below ba Ke.out.lt)
  replace Kb := Lib.hid (Kb.out.below ba Kb.out.lt)
  replace Kf := Lib.hid (Kf.out.below ba Kf.out.lt)
  replace Kg := Lib.hid (Kg.out.below ba Kg.out.lt)
  replace Kh := Lib.hid (Kh.out.below ba Kh.out.lt)
  obtain ⟨gk, hg⟩ : ∃ g, U8.heap.size = g := ⟨_, rfl⟩
  obtain ⟨V9, hW⟩ : ∃ W, (U8.alloc (.cells #[.int .i64 s0, .int .i64 s1, .int .i64 s2, .int .i64 s3, .int .i64 s4, .int .i64 s5, .int .i64 s6, .int .i64 s7, .int .i64 s8, .int .i64 s9, .int .i64 s10] 24)).alloc (.cells #[.int .i64 fo, .int .i64 fa, .int .i64 fb] 28) = W := ⟨_, rfl⟩
  rw [hW] at BB kn km Kt Ka Ke Kb Kf Kg Kh
  rw [hg] at kn km hgb nt_k na_k ne_k nb_k nf_k ng_k nh_k
  have Kk := Lib.hid kn
  have Kl := Lib.hid km
  have HGa := Lib.hid hg
  have HWa := Lib.hid hW
  have HBk := Lib.hid hgb
  have HBl : Hid (w.heap.size ≤ gk + 1) := Lib.hid (by omega)
  have Nk_l : Hid (gk ≠ gk + 1) := Lib.hid (by omega)
  have Nt_k : Hid (w.heap.size ≠ gk) := Lib.hid (by omega)
  have Nt_l : Hid (w.heap.size ≠ gk + 1) := Lib.hid (by omega)
  have Na_k : Hid (ga ≠ gk) := Lib.hid (by omega)
  have Na_l : Hid (ga ≠ gk + 1) := Lib.hid (by omega)
  have Ne_k : Hid ((ga + 1) ≠ gk) := Lib.hid (by omega)
  have Ne_l : Hid ((ga + 1) ≠ gk + 1) := Lib.hid (by omega)
  have Nb_k : Hid (gb ≠ gk) := Lib.hid (by omega)
  have Nb_l : Hid (gb ≠ gk + 1) := Lib.hid (by omega)
  have Nf_k : Hid ((gb + 1) ≠ gk) := Lib.hid (by omega)
  have Nf_l : Hid ((gb + 1) ≠ gk + 1) := Lib.hid (by omega)
  have Ng_k : Hid (gg ≠ gk) := Lib.hid (by omega)
  have Ng_l : Hid (gg ≠ gk + 1) := Lib.hid (by omega)
  have Nh_k : Hid ((gg + 1) ≠ gk) := Lib.hid (by omega)
  have Nh_l : Hid ((gg + 1) ≠ gk + 1) := Lib.hid (by omega)
  clear hW hg kn km ba hgb nt_k na_k ne_k nb_k nf_k ng_k nh_k
  go_upto_region 10 with fail
  rw [HWa.out]
  try rw [HGa.out]
  clear HWa HGa
  obtain ⟨qt_0, qt_1, qt_2, qt_3, qt_4, qt_5, qt_6, qt_7, qt_8, qt_9, qt_10⟩ := Kt.out.c11
  have lt := Kt.out.lt
  go_wp2_with fail
  refine (C5.out _ BB.out).mono ?_
  rintro e U10 ⟨rfl, bU10⟩
  clear qt_0 qt_1 qt_2 qt_3 qt_4 qt_5 qt_6 qt_7 qt_8 qt_9 qt_10 lt
  replace BB := Lib.hid (below3 BB.out bU10)
  replace Kt := Lib.hid (Kt.out.below bU10 Kt.out.lt)
  replace Ka := Lib.hid (Ka.out.below bU10 Ka.out.lt)
  replace Ke := Lib.hid (Ke.out.below bU10 Ke.out.lt)
  replace Kb := Lib.hid (Kb.out.below bU10 Kb.out.lt)
  replace Kf := Lib.hid (Kf.out.below bU10 Kf.out.lt)
  replace Kg := Lib.hid (Kg.out.below bU10 Kg.out.lt)
  replace Kh := Lib.hid (Kh.out.below bU10 Kh.out.lt)
  replace Kk := Lib.hid (Kk.out.below bU10 Kk.out.lt)
  replace Kl := Lib.hid (Kl.out.below bU10 Kl.out.lt)
  clear bU10
  obtain ⟨qt_0, qt_1, qt_2, qt_3, qt_4, qt_5, qt_6, qt_7, qt_8, qt_9, qt_10⟩ := Kt.out.c11
  have lt := Kt.out.lt
  go_wp2_with fail
  refine (C6.out _ BB.out).mono ?_
  rintro e U11 ⟨rfl, bU11⟩
  clear qt_0 qt_1 qt_2 qt_3 qt_4 qt_5 qt_6 qt_7 qt_8 qt_9 qt_10 lt
  replace BB := Lib.hid (below3 BB.out bU11)
  replace Kt := Lib.hid (Kt.out.below bU11 Kt.out.lt)
  replace Ka := Lib.hid (Ka.out.below bU11 Ka.out.lt)
  replace Ke := Lib.hid (Ke.out.below bU11 Ke.out.lt)
  replace Kb := Lib.hid (Kb.out.below bU11 Kb.out.lt)
  replace Kf := Lib.hid (Kf.out.below bU11 Kf.out.lt)
  replace Kg := Lib.hid (Kg.out.below bU11 Kg.out.lt)
  replace Kh := Lib.hid (Kh.out.below bU11 Kh.out.lt)
  replace Kk := Lib.hid (Kk.out.below bU11 Kk.out.lt)
  replace Kl := Lib.hid (Kl.out.below bU11 Kl.out.lt)
  clear bU11
  obtain ⟨qt_0, qt_1, qt_2, qt_3, qt_4, qt_5, qt_6, qt_7, qt_8, qt_9, qt_10⟩ := Kt.out.c11
  have lt := Kt.out.lt
  go_wp2_with fail
  refine (C7.out _ BB.out).mono ?_
  rintro e U12 ⟨rfl, bU12⟩
  clear qt_0 qt_1 qt_2 qt_3 qt_4 qt_5 qt_6 qt_7 qt_8 qt_9 qt_10 lt
  replace BB := Lib.hid (below3 BB.out bU12)
  replace Kt := Lib.hid (Kt.out.below bU12 Kt.out.lt)
  replace Ka := Lib.hid (Ka.out.below bU12 Ka.out.lt)
  replace Ke := Lib.hid (Ke.out.below bU12 Ke.out.lt)
  replace Kb := Lib.hid (Kb.out.below bU12 Kb.out.lt)
  replace Kf := Lib.hid (Kf.out.below bU12 Kf.out.lt)
  replace Kg := Lib.hid (Kg.out.below bU12 Kg.out.lt)
  replace Kh := Lib.hid (Kh.out.below bU12 Kh.out.lt)
  replace Kk := Lib.hid (Kk.out.below bU12 Kk.out.lt)
  replace Kl := Lib.hid (Kl.out.below bU12 Kl.out.lt)
  clear bU12
  have kn := Bk.new U12 37 #[.int .i64 io, .int .i64 ia, .int .i64 ib]
  have ba := (Below.refl U12.heap.size U12).alloc (Nat.le_refl _) (.cells #[.int .i64 io, .int .i64 ia, .int .i64 ib] 37)
  have hgb := BB.out.size
  have nt_i := Nat.ne_of_lt Kt.out.lt
  have na_i := Nat.ne_of_lt Ka.out.lt
  have ne_i := Nat.ne_of_lt Ke.out.lt
  have nb_i := Nat.ne_of_lt Kb.out.lt
  have nf_i := Nat.ne_of_lt Kf.out.lt
  have ng_i := Nat.ne_of_lt Kg.out.lt
  have nh_i := Nat.ne_of_lt Kh.out.lt
  have nk_i := Nat.ne_of_lt Kk.out.lt
  have nl_i := Nat.ne_of_lt Kl.out.lt
  replace BB := Lib.hid (below3 BB.out ba)
  replace Kt := Lib.hid (Kt.out.below ba Kt.out.lt)
  replace Ka := Lib.hid (Ka.out.below ba Ka.out.lt)
  replace Ke := Lib.hid (Ke.out.below ba Ke.out.lt)
  replace Kb := Lib.hid (Kb.out.below ba Kb.out.lt)
  replace Kf := Lib.hid (Kf.out.below ba Kf.out.lt)
  replace Kg := Lib.hid (Kg.out.below ba Kg.out.lt)
  replace Kh := Lib.hid (Kh.out.below ba Kh.out.lt)
  replace Kk := Lib.hid (Kk.out.below ba Kk.out.lt)
  replace Kl := Lib.hid (Kl.out.below ba Kl.out.lt)
  obtain ⟨gi, hg⟩ : ∃ g, U12.heap.size = g := ⟨_, rfl⟩
  obtain ⟨V13, hW⟩ : ∃ W, U12.alloc (.cells #[.int .i64 io, .int .i64 ia, .int .i64 ib] 37) = W := ⟨_, rfl⟩
  have Ki := Lib.hid kn
  rw [hW] at BB Ki Kt Ka Ke Kb Kf Kg Kh Kk Kl
  rw [hg] at Ki hgb nt_i na_i ne_i nb_i nf_i ng_i nh_i nk_i nl_i
  have HGi := Lib.hid hg
  have HWi := Lib.hid hW
  have HBi := Lib.hid hgb
  have Nt_i := Lib.hid nt_i
  have Na_i := Lib.hid na_i
  have Ne_i := Lib.hid ne_i
  have Nb_i := Lib.hid nb_i
  have Nf_i := Lib.hid nf_i
  have Ng_i := Lib.hid ng_i
  have Nh_i := Lib.hid nh_i
  have Nk_i := Lib.hid nk_i
  have Nl_i := Lib.hid nl_i
  clear hW hg kn ba hgb nt_i na_i ne_i nb_i nf_i ng_i nh_i nk_i nl_i
  go_upto_region 13 with fail
  rw [HWi.out]
  try rw [HGi.out]
  clear HWi HGi
  obtain ⟨qt_0, qt_1, qt_2, qt_3, qt_4, qt_5, qt_6, qt_7, qt_8, qt_9, qt_10⟩ := Kt.out.c11
  have lt := Kt.out.lt
  go_wp2_with fail
  refine (C8.out _ BB.out).mono ?_
  rintro e U14 ⟨rfl, bU14⟩
  clear qt_0 qt_1 qt_2 qt_3 qt_4 qt_5 qt_6 qt_7 qt_8 qt_9 qt_10 lt
  replace BB := Lib.hid (below3 BB.out bU14)
  replace Kt := Lib.hid (Kt.out.below bU14 Kt.out.lt)
  replace Ka := Lib.hid (Ka.out.below bU14 Ka.out.lt)
  replace Ke := Lib.hid (Ke.out.below bU14 Ke.out.lt)
  replace Kb := Lib.hid (Kb.out.below bU14 Kb.out.lt)
  replace Kf := Lib.hid (Kf.out.below bU14 Kf.out.lt)
  replace Kg := Lib.hid (Kg.out.below bU14 Kg.out.lt)
  replace Kh := Lib.hid (Kh.out.below bU14 Kh.out.lt)
  replace Kk := Lib.hid (Kk.out.below bU14 Kk.out.lt)
  replace Kl := Lib.hid (Kl.out.below bU14 Kl.out.lt)
  replace Ki := Lib.hid (Ki.out.below bU14 Ki.out.lt)
  clear bU14
  have kn := Bk.new U14 37 #[.int .i64 io, .int .i64 ia, .int .i64 ib]
  have ba := (Below.refl U14.heap.size U14).alloc (Nat.le_refl _) (.cells #[.int .i64 io, .int .i64 ia, .int .i64 ib] 37)
  have hgb := BB.out.size
  have nt_j := Nat.ne_of_lt Kt.out.lt
  have na_j := Nat.ne_of_lt Ka.out.lt
  have ne_j := Nat.ne_of_lt Ke.out.lt
  have nb_j := Nat.ne_of_lt Kb.out.lt
  have nf_j := Nat.ne_of_lt Kf.out.lt
  have ng_j := Nat.ne_of_lt Kg.out.lt
  have nh_j := Nat.ne_of_lt Kh.out.lt
  have nk_j := Nat.ne_of_lt Kk.out.lt
  have nl_j := Nat.ne_of_lt Kl.out.lt
  have ni_j := Nat.ne_of_lt Ki.out.lt
  replace BB := Lib.hid (below3 BB.out ba)
  replace Kt := Lib.hid (Kt.out.below ba Kt.out.lt)
  replace Ka := Lib.hid (Ka.out.below ba Ka.out.lt)
  replace Ke := Lib.hid (Ke.out.below ba Ke.out.lt)
  replace Kb := Lib.hid (Kb.out.below ba Kb.out.lt)
  replace Kf := Lib.hid (Kf.out.below ba Kf.out.lt)
  replace Kg := Lib.hid (Kg.out.below ba Kg.out.lt)
  replace Kh := Lib.hid (Kh.out.below ba Kh.out.lt)
  replace Kk := Lib.hid (Kk.out.below ba Kk.out.lt)
  replace Kl := Lib.hid (Kl.out.below ba Kl.out.lt)
  replace Ki := Lib.hid (Ki.out.below ba Ki.out.lt)
  obtain ⟨gj, hg⟩ : ∃ g, U14.heap.size = g := ⟨_, rfl⟩
  obtain ⟨V15, hW⟩ : ∃ W, U14.alloc (.cells #[.int .i64 io, .int .i64 ia, .int .i64 ib] 37) = W := ⟨_, rfl⟩
  have Kj := Lib.hid kn
  rw [hW] at BB Kj Kt Ka Ke Kb Kf Kg Kh Kk Kl Ki
  rw [hg] at Kj hgb nt_j na_j ne_j nb_j nf_j ng_j nh_j nk_j nl_j ni_j
  have HGj := Lib.hid hg
  have HWj := Lib.hid hW
  have HBj := Lib.hid hgb
  have Nt_j := Lib.hid nt_j
  have Na_j := Lib.hid na_j
  have Ne_j := Lib.hid ne_j
  have Nb_j := Lib.hid nb_j
  have Nf_j := Lib.hid nf_j
  have Ng_j := Lib.hid ng_j
  have Nh_j := Lib.hid nh_j
  have Nk_j := Lib.hid nk_j
  have Nl_j := Lib.hid nl_j
  have Ni_j := Lib.hid ni_j
  clear hW hg kn ba hgb nt_j na_j ne_j nb_j nf_j ng_j nh_j nk_j nl_j ni_j
  go_upto_region 14 with fail
  rw [HWj.out]
  try rw [HGj.out]
  clear HWj HGj
  obtain ⟨qa_0, qa_1, qa_2, qa_3, qa_4, qa_5, qa_6, qa_7, qa_8, qa_9, qa_10⟩ := Ka.out.c11
  have la := Ka.out.lt
  obtain ⟨qb_0, qb_1, qb_2, qb_3, qb_4, qb_5, qb_6, qb_7, qb_8, qb_9, qb_10⟩ := Kb.out.c11
  have lb := Kb.out.lt
  obtain ⟨qe_0, qe_1, qe_2⟩ := Ke.out.c3
  have le := Ke.out.lt
  obtain ⟨qf_0, qf_1, qf_2⟩ := Kf.out.c3
  have lf := Kf.out.lt
  obtain ⟨qg_0, qg_1, qg_2, qg_3, qg_4, qg_5, qg_6, qg_7, qg_8, qg_9, qg_10⟩ := Kg.out.c11
  have lg := Kg.out.lt
  obtain ⟨qk_0, qk_1, qk_2, qk_3, qk_4, qk_5, qk_6, qk_7, qk_8, qk_9, qk_10⟩ := Kk.out.c11
  have lk := Kk.out.lt
  obtain ⟨qh_0, qh_1, qh_2⟩ := Kh.out.c3
  have lh := Kh.out.lt
  obtain ⟨ql_0, ql_1, ql_2⟩ := Kl.out.c3
  have ll := Kl.out.lt
  obtain ⟨qi_0, qi_1, qi_2⟩ := Ki.out.c3
  have li := Ki.out.lt
  obtain ⟨qj_0, qj_1, qj_2⟩ := Kj.out.c3
  have lj := Kj.out.lt
  have E1 := HE1.out
  have E2 := HE2.out
  go_wp2
  go_ret
  exact ⟨rfl, BB.out⟩

theorem ldoes_any (t : Tk) (A : Option Addr) (n c : Nat) (p : List I3) (b : Int) (w : World) (hp : Prog w A n c p) (hF : Fol w) : Calls Tryd.prog 3 #[.agg (tc t), .slice A n c, .int .i64 b] w (TrueAns w) := by
  by_cases hb : 200 < n
  · exact ldoes_1 t A n c p b w hp hF hb
  · exact ldoes_2 t A n c p b w hp hF hb

end Go.Proofs.YtlbmlhcphoiaeaaDoor

/-
  The walk of the law StepEnds of layer 13.
-/
import Derived.Test.YtlbmlhcphoiaeaaDoorSto
import Derived.Test.YtlbmlhcphoiaeaaDoorSth
import Derived.Test.YtlbmlhcphoiaeaaDoorTkj
namespace Go.Proofs.YtlbmlhcphoiaeaaDoor
open Go.RowKit

set_option maxRecDepth 100000 in
set_option maxHeartbeats 8000000 in
theorem lends_1 (t : Tk) (A : Option Addr) (n c : Nat) (p : List I3) (w : World) (hp : Prog w A n c p) (hF : Fol w) (hb : 200 < n) : Calls Tryd.prog 6 #[.agg (tc t), .slice A n c] w (TrueAns w) := by
  have HP := Lib.hid hp
  have HN := Lib.hid hp.1
  have hn := Nat.le_trans hp.2.1.1 hp.2.1.2
  have HF := Lib.hid hF
  clear hp hF
  obtain ⟨id, tn, pg, pc, un, k0, k1, k2, k3, st, rn⟩ := t
  unfold tc
  dsimp only
  have h2 : (200 : Int) < n := by omega
  obtain ⟨kb0, hb0⟩ := lies1 w #[.int .i64 id, .int .i64 tn, .int .i64 pg, .int .i64 pc, .int .i64 un, .int .i64 k0, .int .i64 k1, .int .i64 k2, .int .i64 k3, .int .i64 st, .int .i64 rn] 24
  obtain ⟨V, hV⟩ : ∃ V, w.alloc (.cells #[.int .i64 id, .int .i64 tn, .int .i64 pg, .int .i64 pc, .int .i64 un, .int .i64 k0, .int .i64 k1, .int .i64 k2, .int .i64 k3, .int .i64 st, .int .i64 rn] 24) = V := ⟨_, rfl⟩
  rw [hV] at hb0 kb0
  have HV := Lib.hid hV
  have BB := Lib.hid hb0
  have Kt := Lib.hid kb0
  have HBt : Hid (w.heap.size ≤ w.heap.size) := Lib.hid (by omega)
  clear hV hb0 kb0
  go_enter Tryd.func6, Tryd.ntmps6
  go_upto_region 1 with fail
  rw [HV.out]
  clear HV
  go_wp2_with fail
  refine (live_any _ (HF.out.le BB.out)).mono ?_
  rintro e U1 ⟨rfl, bU1⟩
  replace BB := Lib.hid (below3 BB.out bU1)
  replace Kt := Lib.hid (Kt.out.below bU1 Kt.out.lt)
  clear bU1
  go_wp2
  go_ret
  exact ⟨rfl, BB.out⟩

set_option maxRecDepth 100000 in
set_option maxHeartbeats 8000000 in
theorem lends_2 (t : Tk) (A : Option Addr) (n c : Nat) (p : List I3) (w : World) (hp : Prog w A n c p) (hF : Fol w) (hb : ¬ 200 < n) (h : ¬ okF t p) : Calls Tryd.prog 6 #[.agg (tc t), .slice A n c] w (TrueAns w) := by
  have HP := Lib.hid hp
  have HN := Lib.hid hp.1
  have hn := Nat.le_trans hp.2.1.1 hp.2.1.2
  have HF := Lib.hid hF
  clear hp hF
  have CD := Lib.hid (fun (W : World) (hbw : Below w.heap.size w W) => doR_no h ▸ do_any t A n c p W (HP.out.below hbw))
  have CN := Lib.hid (fun (W : World) (hbw : Below w.heap.size w W) => nextR_no h ▸ next_any t A n c p W (HP.out.below hbw))
  obtain ⟨id, tn, pg, pc, un, k0, k1, k2, k3, st, rn⟩ := t
  unfold tc vI zT zI at CD
  unfold tc vI at CN
  try unfold zI at CN
  unfold tc
  dsimp only at *
  have hb2 : ¬ (200 : Int) < n := by omega
  clear h
  obtain ⟨kb0, hb0⟩ := lies1 w #[.int .i64 id, .int .i64 tn, .int .i64 pg, .int .i64 pc, .int .i64 un, .int .i64 k0, .int .i64 k1, .int .i64 k2, .int .i64 k3, .int .i64 st, .int .i64 rn] 24
  obtain ⟨V, hV⟩ : ∃ V, w.alloc (.cells #[.int .i64 id, .int .i64 tn, .int .i64 pg, .int .i64 pc, .int .i64 un, .int .i64 k0, .int .i64 k1, .int .i64 k2, .int .i64 k3, .int .i64 st, .int .i64 rn] 24) = V := ⟨_, rfl⟩
  rw [hV] at hb0 kb0
  have HV := Lib.hid hV
  have BB := Lib.hid hb0
  have Kt := Lib.hid kb0
  have HBt : Hid (w.heap.size ≤ w.heap.size) := Lib.hid (by omega)
  clear hV hb0 kb0
  go_enter Tryd.func6, Tryd.ntmps6
  go_upto_region 1 with fail
  rw [HV.out]
  clear HV
  go_wp2_with fail
  refine (live_any _ (HF.out.le BB.out)).mono ?_
  rintro e U1 ⟨rfl, bU1⟩
  replace BB := Lib.hid (below3 BB.out bU1)
  replace Kt := Lib.hid (Kt.out.below bU1 Kt.out.lt)
  clear bU1
  obtain ⟨qt_0, qt_1, qt_2, qt_3, qt_4, qt_5, qt_6, qt_7, qt_8, qt_9, qt_10⟩ := Kt.out.c11
  have lt := Kt.out.lt
  go_wp2_with fail
  refine (CD.out _ BB.out).mono ?_
  rintro e U2 ⟨rfl, bU2⟩
  clear qt_0 qt_1 qt_2 qt_3 qt_4 qt_5 qt_6 qt_7 qt_8 qt_9 qt_10 lt
  replace BB := Lib.hid (below3 BB.out bU2)
  replace Kt := Lib.hid (Kt.out.below bU2 Kt.out.lt)
  clear bU2
  obtain ⟨kn, km, ba⟩ := lies2 U2 #[.int .i64 0, .int .i64 0, .int .i64 0, .int .i64 0, .int .i64 0, .int .i64 0, .int .i64 0, .int .i64 0, .int .i64 0, .int .i64 0, .int .i64 0] #[.int .i64 0, .int .i64 0, .int .i64 0] 24 28
  have hgb := BB.out.size
  have nt_a := Kt.out.lt
  replace BB := Lib.hid (below3 BB.out ba)
  replace Kt := Lib.hid (Kt.out.below ba Kt.out.lt)
  obtain ⟨ga, hg⟩ : ∃ g, U2.heap.size = g := ⟨_, rfl⟩
  obtain ⟨V3, hW⟩ : ∃ W, (U2.alloc (.cells #[.int .i64 0, .int .i64 0, .int .i64 0, .int .i64 0, .int .i64 0, .int .i64 0, .int .i64 0, .int .i64 0, .int .i64 0, .int .i64 0, .int .i64 0] 24)).alloc (.cells #[.int .i64 0, .int .i64 0, .int .i64 0] 28) = W := ⟨_, rfl⟩
  rw [hW] at BB kn km Kt
  rw [hg] at kn km hgb nt_a
  have Ka := Lib.hid kn
  have Kx := Lib.hid km
  have HGa := Lib.hid hg
  have HWa := Lib.hid hW
  have HBa := Lib.hid hgb
  have HBx : Hid (w.heap.size ≤ ga + 1) := Lib.hid (by omega)
  have Na_x : Hid (ga ≠ ga + 1) := Lib.hid (by omega)
  have Nt_a : Hid (w.heap.size ≠ ga) := Lib.hid (by omega)
  have Nt_x : Hid (w.heap.size ≠ ga + 1) := Lib.hid (by omega)
  clear hW hg kn km ba hgb nt_a
  go_upto_region 7 with fail
  rw [HWa.out]
  try rw [HGa.out]
  clear HWa HGa
  obtain ⟨qt_0, qt_1, qt_2, qt_3, qt_4, qt_5, qt_6, qt_7, qt_8, qt_9, qt_10⟩ := Kt.out.c11
  have lt := Kt.out.lt
  go_wp2_with fail
  refine (CN.out _ BB.out).mono ?_
  rintro e U4 ⟨rfl, bU4⟩
  clear qt_0 qt_1 qt_2 qt_3 qt_4 qt_5 qt_6 qt_7 qt_8 qt_9 qt_10 lt
  replace BB := Lib.hid (below3 BB.out bU4)
  replace Kt := Lib.hid (Kt.out.below bU4 Kt.out.lt)
  replace Ka := Lib.hid (Ka.out.below bU4 Ka.out.lt)
  replace Kx := Lib.hid (Kx.out.below bU4 Kx.out.lt)
  clear bU4
  have kn := Bk.new U4 37 #[.int .i64 0, .int .i64 0, .int .i64 0]
  have ba := (Below.refl U4.heap.size U4).alloc (Nat.le_refl _) (.cells #[.int .i64 0, .int .i64 0, .int .i64 0] 37)
  have hgb := BB.out.size
  have nt_i := Nat.ne_of_lt Kt.out.lt
  have na_i := Nat.ne_of_lt Ka.out.lt
  have nx_i := Nat.ne_of_lt Kx.out.lt
  replace BB := Lib.hid (below3 BB.out ba)
  replace Kt := Lib.hid (Kt.out.below ba Kt.out.lt)
  replace Ka := Lib.hid (Ka.out.below ba Ka.out.lt)
  replace Kx := Lib.hid (Kx.out.below ba Kx.out.lt)
  obtain ⟨gi, hg⟩ : ∃ g, U4.heap.size = g := ⟨_, rfl⟩
  obtain ⟨V5, hW⟩ : ∃ W, U4.alloc (.cells #[.int .i64 0, .int .i64 0, .int .i64 0] 37) = W := ⟨_, rfl⟩
  have Ki := Lib.hid kn
  rw [hW] at BB Ki Kt Ka Kx
  rw [hg] at Ki hgb nt_i na_i nx_i
  have HGi := Lib.hid hg
  have HWi := Lib.hid hW
  have HBi := Lib.hid hgb
  have Nt_i := Lib.hid nt_i
  have Na_i := Lib.hid na_i
  have Nx_i := Lib.hid nx_i
  clear hW hg kn ba hgb nt_i na_i nx_i
  go_upto_region 8 with fail
  rw [HWi.out]
  try rw [HGi.out]
  clear HWi HGi
  obtain ⟨qt_0, qt_1, qt_2, qt_3, qt_4, qt_5, qt_6, qt_7, qt_8, qt_9, qt_10⟩ := Kt.out.c11
  have lt := Kt.out.lt
  obtain ⟨qa_0, qa_1, qa_2, qa_3, qa_4, qa_5, qa_6, qa_7, qa_8, qa_9, qa_10⟩ := Ka.out.c11
  have la := Ka.out.lt
  obtain ⟨qi_0, qi_1, qi_2⟩ := Ki.out.c3
  have li := Ki.out.lt
  go_wp2
  go_ret
  exact ⟨rfl, BB.out⟩

set_option maxRecDepth 100000 in
set_option maxHeartbeats 8000000 in
theorem lends_3 (t : Tk) (A : Option Addr) (n c : Nat) (p : List I3) (w : World) (hp : Prog w A n c p) (hF : Fol w) (hb : ¬ 200 < n) (h : okF t p) (hs : t.st ≠ 2) : Calls Tryd.prog 6 #[.agg (tc t), .slice A n c] w (TrueAns w) := by
  have HP := Lib.hid hp
  have HN := Lib.hid hp.1
  have hn := Nat.le_trans hp.2.1.1 hp.2.1.2
  have HF := Lib.hid hF
  clear hp hF
  have CD := Lib.hid (fun (W : World) (hbw : Below w.heap.size w W) => ((doR_yes h).trans (unitR_1 hs)) ▸ do_any t A n c p W (HP.out.below hbw))
  have CN := Lib.hid (fun (W : World) (hbw : Below w.heap.size w W) => nextR_yes h ▸ next_any t A n c p W (HP.out.below hbw))
  generalize atI p t.pc = nn at CN
  obtain ⟨io, ia, ib⟩ := nn
  obtain ⟨id, tn, pg, pc, un, k0, k1, k2, k3, st, rn⟩ := t
  unfold tc vI zT zI at CD
  unfold tc vI at CN
  try unfold zI at CN
  unfold tc
  dsimp only at *
  have hb2 : ¬ (200 : Int) < n := by omega
  clear h
  have d1 : (st == 2) = false := by simpa using hs
  have d2 : (st != 2) = true := by simpa using hs
  clear hs
  have E1 := eql_task zT
  unfold tc zT at E1
  dsimp only at E1
  obtain ⟨kb0, hb0⟩ := lies1 w #[.int .i64 id, .int .i64 tn, .int .i64 pg, .int .i64 pc, .int .i64 un, .int .i64 k0, .int .i64 k1, .int .i64 k2, .int .i64 k3, .int .i64 st, .int .i64 rn] 24
  obtain ⟨V, hV⟩ : ∃ V, w.alloc (.cells #[.int .i64 id, .int .i64 tn, .int .i64 pg, .int .i64 pc, .int .i64 un, .int .i64 k0, .int .i64 k1, .int .i64 k2, .int .i64 k3, .int .i64 st, .int .i64 rn] 24) = V := ⟨_, rfl⟩
  rw [hV] at hb0 kb0
  have HV := Lib.hid hV
  have BB := Lib.hid hb0
  have Kt := Lib.hid kb0
  have HBt : Hid (w.heap.size ≤ w.heap.size) := Lib.hid (by omega)
  clear hV hb0 kb0
  go_enter Tryd.func6, Tryd.ntmps6
  go_upto_region 1 with fail
  rw [HV.out]
  clear HV
  go_wp2_with fail
  refine (live_any _ (HF.out.le BB.out)).mono ?_
  rintro e U1 ⟨rfl, bU1⟩
  replace BB := Lib.hid (below3 BB.out bU1)
  replace Kt := Lib.hid (Kt.out.below bU1 Kt.out.lt)
  clear bU1
  obtain ⟨qt_0, qt_1, qt_2, qt_3, qt_4, qt_5, qt_6, qt_7, qt_8, qt_9, qt_10⟩ := Kt.out.c11
  have lt := Kt.out.lt
  go_wp2_with fail
  refine (CD.out _ BB.out).mono ?_
  rintro e U2 ⟨rfl, bU2⟩
  clear qt_0 qt_1 qt_2 qt_3 qt_4 qt_5 qt_6 qt_7 qt_8 qt_9 qt_10 lt
  replace BB := Lib.hid (below3 BB.out bU2)
  replace Kt := Lib.hid (Kt.out.below bU2 Kt.out.lt)
  clear bU2
  obtain ⟨kn, km, ba⟩ := lies2 U2 #[.int .i64 0, .int .i64 0, .int .i64 0, .int .i64 0, .int .i64 0, .int .i64 0, .int .i64 0, .int .i64 0, .int .i64 0, .int .i64 0, .int .i64 0] #[.int .i64 0, .int .i64 0, .int .i64 0] 24 28
  have hgb := BB.out.size
  have nt_a := Kt.out.lt
  replace BB := Lib.hid (below3 BB.out ba)
  replace Kt := Lib.hid (Kt.out.below ba Kt.out.lt)
  obtain ⟨ga, hg⟩ : ∃ g, U2.heap.size = g := ⟨_, rfl⟩
  obtain ⟨V3, hW⟩ : ∃ W, (U2.alloc (.cells #[.int .i64 0, .int .i64 0, .int .i64 0, .int .i64 0, .int .i64 0, .int .i64 0, .int .i64 0, .int .i64 0, .int .i64 0, .int .i64 0, .int .i64 0] 24)).alloc (.cells #[.int .i64 0, .int .i64 0, .int .i64 0] 28) = W := ⟨_, rfl⟩
  rw [hW] at BB kn km Kt
  rw [hg] at kn km hgb nt_a
  have Ka := Lib.hid kn
  have Kx := Lib.hid km
  have HGa := Lib.hid hg
  have HWa := Lib.hid hW
  have HBa := Lib.hid hgb
  have HBx : Hid (w.heap.size ≤ ga + 1) := Lib.hid (by omega)
  have Na_x : Hid (ga ≠ ga + 1) := Lib.hid (by omega)
  have Nt_a : Hid (w.heap.size ≠ ga) := Lib.hid (by omega)
  have Nt_x : Hid (w.heap.size ≠ ga + 1) := Lib.hid (by omega)
  clear hW hg kn km ba hgb nt_a
  go_upto_region 7 with fail
  rw [HWa.out]
  try rw [HGa.out]
  clear HWa HGa
  obtain ⟨qt_0, qt_1, qt_2, qt_3, qt_4, qt_5, qt_6, qt_7, qt_8, qt_9, qt_10⟩ := Kt.out.c11
  have lt := Kt.out.lt
  go_wp2_with fail
  refine (CN.out _ BB.out).mono ?_
  rintro e U4 ⟨rfl, bU4⟩
  clear qt_0 qt_1 qt_2 qt_3 qt_4 qt_5 qt_6 qt_7 qt_8 qt_9 qt_10 lt
  replace BB := Lib.hid (below3 BB.out bU4)
  replace Kt := Lib.hid (Kt.out.below bU4 Kt.out.lt)
  replace Ka := Lib.hid (Ka.out.below bU4 Ka.out.lt)
  replace Kx := Lib.hid (Kx.out.below bU4 Kx.out.lt)
  clear bU4
  have kn := Bk.new U4 37 #[.int .i64 io, .int .i64 ia, .int .i64 ib]
  have ba := (Below.refl U4.heap.size U4).alloc (Nat.le_refl _) (.cells #[.int .i64 io, .int .i64 ia, .int .i64 ib] 37)
  have hgb := BB.out.size
  have nt_i := Nat.ne_of_lt Kt.out.lt
  have na_i := Nat.ne_of_lt Ka.out.lt
  have nx_i := Nat.ne_of_lt Kx.out.lt
  replace BB := Lib.hid (below3 BB.out ba)
  replace Kt := Lib.hid (Kt.out.below ba Kt.out.lt)
  replace Ka := Lib.hid (Ka.out.below ba Ka.out.lt)
  replace Kx := Lib.hid (Kx.out.below ba Kx.out.lt)
  obtain ⟨gi, hg⟩ : ∃ g, U4.heap.size = g := ⟨_, rfl⟩
  obtain ⟨V5, hW⟩ : ∃ W, U4.alloc (.cells #[.int .i64 io, .int .i64 ia, .int .i64 ib] 37) = W := ⟨_, rfl⟩
  have Ki := Lib.hid kn
  rw [hW] at BB Ki Kt Ka Kx
  rw [hg] at Ki hgb nt_i na_i nx_i
  have HGi := Lib.hid hg
  have HWi := Lib.hid hW
  have HBi := Lib.hid hgb
  have Nt_i := Lib.hid nt_i
  have Na_i := Lib.hid na_i
  have Nx_i := Lib.hid nx_i
  clear hW hg kn ba hgb nt_i na_i nx_i
  go_upto_region 8 with fail
  rw [HWi.out]
  try rw [HGi.out]
  clear HWi HGi
  obtain ⟨qt_0, qt_1, qt_2, qt_3, qt_4, qt_5, qt_6, qt_7, qt_8, qt_9, qt_10⟩ := Kt.out.c11
  have lt := Kt.out.lt
  obtain ⟨qa_0, qa_1, qa_2, qa_3, qa_4, qa_5, qa_6, qa_7, qa_8, qa_9, qa_10⟩ := Ka.out.c11
  have la := Ka.out.lt
  obtain ⟨qi_0, qi_1, qi_2⟩ := Ki.out.c3
  have li := Ki.out.lt
  go_wp2
  go_ret
  exact ⟨rfl, BB.out⟩

set_option maxRecDepth 100000 in
set_option maxHeartbeats 8000000 in
theorem lends_4 (t : Tk) (A : Option Addr) (n c : Nat) (p : List I3) (w : World) (hp : Prog w A n c p) (hF : Fol w) (hb : ¬ 200 < n) (h : okF t p) (hs : t.st = 2) (hr : t.rn = 1099511627776) : Calls Tryd.prog 6 #[.agg (tc t), .slice A n c] w (TrueAns w) := by
  have HP := Lib.hid hp
  have HN := Lib.hid hp.1
  have hn := Nat.le_trans hp.2.1.1 hp.2.1.2
  have HF := Lib.hid hF
  clear hp hF
  have CD := Lib.hid (fun (W : World) (hbw : Below w.heap.size w W) => ((doR_yes h).trans (unitR_2 hs hr)) ▸ do_any t A n c p W (HP.out.below hbw))
  have CN := Lib.hid (fun (W : World) (hbw : Below w.heap.size w W) => nextR_yes h ▸ next_any t A n c p W (HP.out.below hbw))
  generalize atI p t.pc = nn at CN
  obtain ⟨io, ia, ib⟩ := nn
  obtain ⟨id, tn, pg, pc, un, k0, k1, k2, k3, st, rn⟩ := t
  unfold tc vI zT zI at CD
  unfold tc vI at CN
  try unfold zI at CN
  unfold tc
  dsimp only at *
  have hb2 : ¬ (200 : Int) < n := by omega
  clear h
  have d1 : (st == 2) = true := by simpa using hs
  have d3 : (st != 2) = false := by simpa using hs
  have d2 : (rn == 1099511627776) = true := by simpa using hr
  clear hs hr
  obtain ⟨kb0, hb0⟩ := lies1 w #[.int .i64 id, .int .i64 tn, .int .i64 pg, .int .i64 pc, .int .i64 un, .int .i64 k0, .int .i64 k1, .int .i64 k2, .int .i64 k3, .int .i64 st, .int .i64 rn] 24
  obtain ⟨V, hV⟩ : ∃ V, w.alloc (.cells #[.int .i64 id, .int .i64 tn, .int .i64 pg, .int .i64 pc, .int .i64 un, .int .i64 k0, .int .i64 k1, .int .i64 k2, .int .i64 k3, .int .i64 st, .int .i64 rn] 24) = V := ⟨_, rfl⟩
  rw [hV] at hb0 kb0
  have HV := Lib.hid hV
  have BB := Lib.hid hb0
  have Kt := Lib.hid kb0
  have HBt : Hid (w.heap.size ≤ w.heap.size) := Lib.hid (by omega)
  clear hV hb0 kb0
  go_enter Tryd.func6, Tryd.ntmps6
  go_upto_region 1 with fail
  rw [HV.out]
  clear HV
  go_wp2_with fail
  refine (live_any _ (HF.out.le BB.out)).mono ?_
  rintro e U1 ⟨rfl, bU1⟩
  replace BB := Lib.hid (below3 BB.out bU1)
  replace Kt := Lib.hid (Kt.out.below bU1 Kt.out.lt)
  clear bU1
  obtain ⟨qt_0, qt_1, qt_2, qt_3, qt_4, qt_5, qt_6, qt_7, qt_8, qt_9, qt_10⟩ := Kt.out.c11
  have lt := Kt.out.lt
  go_wp2_with fail
  refine (CD.out _ BB.out).mono ?_
  rintro e U2 ⟨rfl, bU2⟩
  clear qt_0 qt_1 qt_2 qt_3 qt_4 qt_5 qt_6 qt_7 qt_8 qt_9 qt_10 lt
  replace BB := Lib.hid (below3 BB.out bU2)
  replace Kt := Lib.hid (Kt.out.below bU2 Kt.out.lt)
  clear bU2
  obtain ⟨kn, km, ba⟩ := lies2 U2 #[.int .i64 0, .int .i64 0, .int .i64 0, .int .i64 0, .int .i64 0, .int .i64 0, .int .i64 0, .int .i64 0, .int .i64 0, .int .i64 0, .int .i64 0] #[.int .i64 0, .int .i64 0, .int .i64 0] 24 28
  have hgb := BB.out.size
  have nt_a := Kt.out.lt
  replace BB := Lib.hid (below3 BB.out ba)
  replace Kt := Lib.hid (Kt.out.below ba Kt.out.lt)
  obtain ⟨ga, hg⟩ : ∃ g, U2.heap.size = g := ⟨_, rfl⟩
  obtain ⟨V3, hW⟩ : ∃ W, (U2.alloc (.cells #[.int .i64 0, .int .i64 0, .int .i64 0, .int .i64 0, .int .i64 0, .int .i64 0, .int .i64 0, .int .i64 0, .int .i64 0, .int .i64 0, .int .i64 0] 24)).alloc (.cells #[.int .i64 0, .int .i64 0, .int .i64 0] 28) = W := ⟨_, rfl⟩
  rw [hW] at BB kn km Kt
  rw [hg] at kn km hgb nt_a
  have Ka := Lib.hid kn
  have Kx := Lib.hid km
  have HGa := Lib.hid hg
  have HWa := Lib.hid hW
  have HBa := Lib.hid hgb
  have HBx : Hid (w.heap.size ≤ ga + 1) := Lib.hid (by omega)
  have Na_x : Hid (ga ≠ ga + 1) := Lib.hid (by omega)
  have Nt_a : Hid (w.heap.size ≠ ga) := Lib.hid (by omega)
  have Nt_x : Hid (w.heap.size ≠ ga + 1) := Lib.hid (by omega)
  clear hW hg kn km ba hgb nt_a
  go_upto_region 7 with fail
  rw [HWa.out]
  try rw [HGa.out]
  clear HWa HGa
  obtain ⟨qt_0, qt_1, qt_2, qt_3, qt_4, qt_5, qt_6, qt_7, qt_8, qt_9, qt_10⟩ := Kt.out.c11
  have lt := Kt.out.lt
  go_wp2_with fail
  refine (CN.out _ BB.out).mono ?_
  rintro e U4 ⟨rfl, bU4⟩
  clear qt_0 qt_1 qt_2 qt_3 qt_4 qt_5 qt_6 qt_7 qt_8 qt_9 qt_10 lt
  replace BB := Lib.hid (below3 BB.out bU4)
  replace Kt := Lib.hid (Kt.out.below bU4 Kt.out.lt)
  replace Ka := Lib.hid (Ka.out.below bU4 Ka.out.lt)
  replace Kx := Lib.hid (Kx.out.below bU4 Kx.out.lt)
  clear bU4
  have kn := Bk.new U4 37 #[.int .i64 io, .int .i64 ia, .int .i64 ib]
  have ba := (Below.refl U4.heap.size U4).alloc (Nat.le_refl _) (.cells #[.int .i64 io, .int .i64 ia, .int .i64 ib] 37)
  have hgb := BB.out.size
  have nt_i := Nat.ne_of_lt Kt.out.lt
  have na_i := Nat.ne_of_lt Ka.out.lt
  have nx_i := Nat.ne_of_lt Kx.out.lt
  replace BB := Lib.hid (below3 BB.out ba)
  replace Kt := Lib.hid (Kt.out.below ba Kt.out.lt)
  replace Ka := Lib.hid (Ka.out.below ba Ka.out.lt)
  replace Kx := Lib.hid (Kx.out.below ba Kx.out.lt)
  obtain ⟨gi, hg⟩ : ∃ g, U4.heap.size = g := ⟨_, rfl⟩
  obtain ⟨V5, hW⟩ : ∃ W, U4.alloc (.cells #[.int .i64 io, .int .i64 ia, .int .i64 ib] 37) = W := ⟨_, rfl⟩
  have Ki := Lib.hid kn
  rw [hW] at BB Ki Kt Ka Kx
  rw [hg] at Ki hgb nt_i na_i nx_i
  have HGi := Lib.hid hg
  have HWi := Lib.hid hW
  have HBi := Lib.hid hgb
  have Nt_i := Lib.hid nt_i
  have Na_i := Lib.hid na_i
  have Nx_i := Lib.hid nx_i
  clear hW hg kn ba hgb nt_i na_i nx_i
  go_upto_region 8 with fail
  rw [HWi.out]
  try rw [HGi.out]
  clear HWi HGi
  obtain ⟨qt_0, qt_1, qt_2, qt_3, qt_4, qt_5, qt_6, qt_7, qt_8, qt_9, qt_10⟩ := Kt.out.c11
  have lt := Kt.out.lt
  obtain ⟨qa_0, qa_1, qa_2, qa_3, qa_4, qa_5, qa_6, qa_7, qa_8, qa_9, qa_10⟩ := Ka.out.c11
  have la := Ka.out.lt
  obtain ⟨qi_0, qi_1, qi_2⟩ := Ki.out.c3
  have li := Ki.out.lt
  go_wp2
  go_ret
  exact ⟨rfl, BB.out⟩

set_option maxRecDepth 100000 in
set_option maxHeartbeats 8000000 in
theorem lends_5 (t : Tk) (A : Option Addr) (n c : Nat) (p : List I3) (w : World) (hp : Prog w A n c p) (hF : Fol w) (hb : ¬ 200 < n) (h : okF t p) (hs : t.st = 2) (hr : t.rn ≠ 1099511627776) (hl : ¬ t.pc < n) : Calls Tryd.prog 6 #[.agg (tc t), .slice A n c] w (TrueAns w) := by
  have HP := Lib.hid hp
  have HN := Lib.hid hp.1
  have hn := Nat.le_trans hp.2.1.1 hp.2.1.2
  have HF := Lib.hid hF
  clear hp hF
  have he := unit_go (t := t) (p := p) hs hr
  obtain ⟨hl1, hl2⟩ := left_unit h he
  have hl3 := leftV_le h
  have hk := unit_keeps h he
  obtain ⟨k, hk0, h1, -⟩ := h.num
  have hkn : k = n := by rw [HN.out] at h1; omega
  have hat : atI p t.pc = (9, 0, 0) := by rw [atI_nat hk0]; exact atN_end (by rw [HN.out]; exact hkn)
  have hu := unitR_5 (t := t) (p := p) hs hr (by rw [hat]; decide) (by rw [HN.out]; exact hl)
  have hz := left_end h (by rw [HN.out]; omega)
  rw [hat] at hu
  have CD := Lib.hid (fun (W : World) (hbw : Below w.heap.size w W) => doR_yes h ▸ do_any t A n c p W (HP.out.below hbw))
  have CN := Lib.hid (fun (W : World) (hbw : Below w.heap.size w W) => nextR_yes h ▸ next_any t A n c p W (HP.out.below hbw))
  have CL := Lib.hid (fun (W : World) (hbw : Below w.heap.size w W) => leftR_ok h ▸ left_any t A n c p W (HP.out.below hbw))
  have CM := Lib.hid (fun (W : World) (hbw : Below w.heap.size w W) => leftR_ok hk ▸ left_any (unitR t p).1 A n c p W (HP.out.below hbw))
  rw [hat] at CN
  rw [hl1, hz] at CM
  rw [hz] at CL
  rw [show max (0 - 1 : Int) 0 = 0 by decide] at CM
  clear hl1 hl2 hl3 hz hk he
  rw [hu] at CD CM
  clear hu hat
  obtain ⟨id, tn, pg, pc, un, k0, k1, k2, k3, st, rn⟩ := t
  unfold tc vI at CD CN
  unfold tc Ret2 at CL CM
  unfold tc
  dsimp only at *
  subst hk0
  have e1 : ((k : Int) == (n : Int)) = true := beq_iff_eq.2 (by omega)
  clear hl hkn
  have d1 : (st == 2) = true := by simpa using hs
  have d3 : (st != 2) = false := by simpa using hs
  have d2 : (rn == 1099511627776) = false := by simpa using hr
  clear hs hr h
  have hb2 : ¬ (200 : Int) < n := by omega
  obtain ⟨kb0, hb0⟩ := lies1 w #[.int .i64 id, .int .i64 tn, .int .i64 pg, .int .i64 k, .int .i64 un, .int .i64 k0, .int .i64 k1, .int .i64 k2, .int .i64 k3, .int .i64 st, .int .i64 rn] 24
  obtain ⟨V, hV⟩ : ∃ V, w.alloc (.cells #[.int .i64 id, .int .i64 tn, .int .i64 pg, .int .i64 k, .int .i64 un, .int .i64 k0, .int .i64 k1, .int .i64 k2, .int .i64 k3, .int .i64 st, .int .i64 rn] 24) = V := ⟨_, rfl⟩
  rw [hV] at hb0 kb0
  have HV := Lib.hid hV
  have BB := Lib.hid hb0
  have Kt := Lib.hid kb0
  have HBt : Hid (w.heap.size ≤ w.heap.size) := Lib.hid (by omega)
  clear hV hb0 kb0
  go_enter Tryd.func6, Tryd.ntmps6
  go_upto_region 1 with fail
  rw [HV.out]
  clear HV
  go_wp2_with fail
  refine (live_any _ (HF.out.le BB.out)).mono ?_
  rintro e U1 ⟨rfl, bU1⟩
  replace BB := Lib.hid (below3 BB.out bU1)
  replace Kt := Lib.hid (Kt.out.below bU1 Kt.out.lt)
  clear bU1
  obtain ⟨qt_0, qt_1, qt_2, qt_3, qt_4, qt_5, qt_6, qt_7, qt_8, qt_9, qt_10⟩ := Kt.out.c11
  have lt := Kt.out.lt
  go_wp2_with fail
  refine (CD.out _ BB.out).mono ?_
  rintro e U2 ⟨rfl, bU2⟩
  clear qt_0 qt_1 qt_2 qt_3 qt_4 qt_5 qt_6 qt_7 qt_8 qt_9 qt_10 lt
  replace BB := Lib.hid (below3 BB.out bU2)
  replace Kt := Lib.hid (Kt.out.below bU2 Kt.out.lt)
  clear bU2
  obtain ⟨kn, km, ba⟩ := lies2 U2 #[.int .i64 id, .int .i64 tn, .int .i64 pg, .int .i64 k, .int .i64 un, .int .i64 k0, .int .i64 k1, .int .i64 k2, .int .i64 k3, .int .i64 st, .int .i64 (rn + 1)] #[.int .i64 9, .int .i64 0, .int .i64 0] 24 28
  have hgb := BB.out.size
  have nt_a := Kt.out.lt
  replace BB := Lib.hid (below3 BB.out ba)
  replace Kt := Lib.hid (Kt.out.below ba Kt.out.lt)
  obtain ⟨ga, hg⟩ : ∃ g, U2.heap.size = g := ⟨_, rfl⟩
  obtain ⟨V3, hW⟩ : ∃ W, (U2.alloc (.cells #[.int .i64 id, .int .i64 tn, .int .i64 pg, .int .i64 k, .int .i64 un, .int .i64 k0, .int .i64 k1, .int .i64 k2, .int .i64 k3, .int .i64 st, .int .i64 (rn + 1)] 24)).alloc (.cells #[.int .i64 9, .int .i64 0, .int .i64 0] 28) = W := ⟨_, rfl⟩
  rw [hW] at BB kn km Kt
  rw [hg] at kn km hgb nt_a
  have Ka := Lib.hid kn
  have Kx := Lib.hid km
  have HGa := Lib.hid hg
  have HWa := Lib.hid hW
  have HBa := Lib.hid hgb
  have HBx : Hid (w.heap.size ≤ ga + 1) := Lib.hid (by omega)
  have Na_x : Hid (ga ≠ ga + 1) := Lib.hid (by omega)
  have Nt_a : Hid (w.heap.size ≠ ga) := Lib.hid (by omega)
  have Nt_x : Hid (w.heap.size ≠ ga + 1) := Lib.hid (by omega)
  clear hW hg kn km ba hgb nt_a
  go_upto_region 7 with fail
  rw [HWa.out]
  try rw [HGa.out]
  clear HWa HGa
  obtain ⟨qt_0, qt_1, qt_2, qt_3, qt_4, qt_5, qt_6, qt_7, qt_8, qt_9, qt_10⟩ := Kt.out.c11
  have lt := Kt.out.lt
  go_wp2_with fail
  refine (CN.out _ BB.out).mono ?_
  rintro e U4 ⟨rfl, bU4⟩
  clear qt_0 qt_1 qt_2 qt_3 qt_4 qt_5 qt_6 qt_7 qt_8 qt_9 qt_10 lt
  replace BB := Lib.hid (below3 BB.out bU4)
  replace Kt := Lib.hid (Kt.out.below bU4 Kt.out.lt)
  replace Ka := Lib.hid (Ka.out.below bU4 Ka.out.lt)
  replace Kx := Lib.hid (Kx.out.below bU4 Kx.out.lt)
  clear bU4
  have kn := Bk.new U4 37 #[.int .i64 9, .int .i64 0, .int .i64 0]
  have ba := (Below.refl U4.heap.size U4).alloc (Nat.le_refl _) (.cells #[.int .i64 9, .int .i64 0, .int .i64 0] 37)
  have hgb := BB.out.size
  have nt_i := Nat.ne_of_lt Kt.out.lt
  have na_i := Nat.ne_of_lt Ka.out.lt
  have nx_i := Nat.ne_of_lt Kx.out.lt
  replace BB := Lib.hid (below3 BB.out ba)
  replace Kt := Lib.hid (Kt.out.below ba Kt.out.lt)
  replace Ka := Lib.hid (Ka.out.below ba Ka.out.lt)
  replace Kx := Lib.hid (Kx.out.below ba Kx.out.lt)
  obtain ⟨gi, hg⟩ : ∃ g, U4.heap.size = g := ⟨_, rfl⟩
  obtain ⟨V5, hW⟩ : ∃ W, U4.alloc (.cells #[.int .i64 9, .int .i64 0, .int .i64 0] 37) = W := ⟨_, rfl⟩
  have Ki := Lib.hid kn
  rw [hW] at BB Ki Kt Ka Kx
  rw [hg] at Ki hgb nt_i na_i nx_i
  have HGi := Lib.hid hg
  have HWi := Lib.hid hW
  have HBi := Lib.hid hgb
  have Nt_i := Lib.hid nt_i
  have Na_i := Lib.hid na_i
  have Nx_i := Lib.hid nx_i
  clear hW hg kn ba hgb nt_i na_i nx_i
  go_upto_region 8 with fail
  rw [HWi.out]
  try rw [HGi.out]
  clear HWi HGi
  obtain ⟨qt_0, qt_1, qt_2, qt_3, qt_4, qt_5, qt_6, qt_7, qt_8, qt_9, qt_10⟩ := Kt.out.c11
  have lt := Kt.out.lt
  go_wp2_with fail
  refine (CL.out _ BB.out).mono ?_
  rintro e U6 ⟨rfl, bU6⟩
  clear qt_0 qt_1 qt_2 qt_3 qt_4 qt_5 qt_6 qt_7 qt_8 qt_9 qt_10 lt
  replace BB := Lib.hid (below3 BB.out bU6)
  replace Kt := Lib.hid (Kt.out.below bU6 Kt.out.lt)
  replace Ka := Lib.hid (Ka.out.below bU6 Ka.out.lt)
  replace Kx := Lib.hid (Kx.out.below bU6 Kx.out.lt)
  replace Ki := Lib.hid (Ki.out.below bU6 Ki.out.lt)
  clear bU6
  obtain ⟨qa_0, qa_1, qa_2, qa_3, qa_4, qa_5, qa_6, qa_7, qa_8, qa_9, qa_10⟩ := Ka.out.c11
  have la := Ka.out.lt
  go_wp2_with fail
  refine (CM.out _ BB.out).mono ?_
  rintro e U7 ⟨rfl, bU7⟩
  clear qa_0 qa_1 qa_2 qa_3 qa_4 qa_5 qa_6 qa_7 qa_8 qa_9 qa_10 la
  replace BB := Lib.hid (below3 BB.out bU7)
  replace Kt := Lib.hid (Kt.out.below bU7 Kt.out.lt)
  replace Ka := Lib.hid (Ka.out.below bU7 Ka.out.lt)
  replace Kx := Lib.hid (Kx.out.below bU7 Kx.out.lt)
  replace Ki := Lib.hid (Ki.out.below bU7 Ki.out.lt)
  clear bU7
  obtain ⟨qt_0, qt_1, qt_2, qt_3, qt_4, qt_5, qt_6, qt_7, qt_8, qt_9, qt_10⟩ := Kt.out.c11
  have lt := Kt.out.lt
  obtain ⟨qa_0, qa_1, qa_2, qa_3, qa_4, qa_5, qa_6, qa_7, qa_8, qa_9, qa_10⟩ := Ka.out.c11
  have la := Ka.out.lt
  obtain ⟨qx_0, qx_1, qx_2⟩ := Kx.out.c3
  have lx := Kx.out.lt
  go_wp2
  go_ret
  exact ⟨rfl, BB.out⟩

set_option maxRecDepth 100000 in
set_option maxHeartbeats 8000000 in
theorem lends_6 (t : Tk) (A : Option Addr) (n c : Nat) (p : List I3) (w : World) (hp : Prog w A n c p) (hF : Fol w) (hb : ¬ 200 < n) (h : okF t p) (hs : t.st = 2) (hr : t.rn ≠ 1099511627776) (hl : t.pc < n) : Calls Tryd.prog 6 #[.agg (tc t), .slice A n c] w (TrueAns w) := by
  have HP := Lib.hid hp
  have HN := Lib.hid hp.1
  have hn := Nat.le_trans hp.2.1.1 hp.2.1.2
  have HF := Lib.hid hF
  clear hp hF
  have he := unit_go (t := t) (p := p) hs hr
  obtain ⟨hl1, hl2⟩ := left_unit h he
  have hl3 := leftV_le h
  have hk := unit_keeps h he
  have hpcb : 0 ≤ t.pc ∧ t.pc ≤ 33 := ⟨h.1.1.2.2.2.1.1, by have := h.1.1.2.2.2.1.2; omega⟩
  obtain ⟨hi1, -⟩ := unit_ids he
  obtain ⟨hq1, hq2, hq3⟩ := unit_pc h he
  have CD := Lib.hid (fun (W : World) (hbw : Below w.heap.size w W) => doR_yes h ▸ do_any t A n c p W (HP.out.below hbw))
  have CN := Lib.hid (fun (W : World) (hbw : Below w.heap.size w W) => nextR_yes h ▸ next_any t A n c p W (HP.out.below hbw))
  have CL := Lib.hid (fun (W : World) (hbw : Below w.heap.size w W) => leftR_ok h ▸ left_any t A n c p W (HP.out.below hbw))
  have CM := Lib.hid (fun (W : World) (hbw : Below w.heap.size w W) => leftR_ok hk ▸ left_any (unitR t p).1 A n c p W (HP.out.below hbw))
  rw [hl1] at CM
  rw [show (unitR t p).2.2 = 0 from he] at CD
  generalize leftV t p = lv at *
  generalize unitR t p = u at *
  generalize atI p t.pc = nn at CN
  obtain ⟨io, ia, ib⟩ := nn
  obtain ⟨⟨a0, a1, a2, a3, a4, a5, a6, a7, a8, a9, a10⟩, ⟨xo, xa, xb⟩, ue⟩ := u
  obtain ⟨id, tn, pg, pc, un, k0, k1, k2, k3, st, rn⟩ := t
  unfold tc vI at CD CN
  unfold tc Ret2 at CL CM
  unfold tc
  dsimp only at *
  subst hi1 hq3 he
  obtain ⟨hp1, hp2⟩ := hpcb
  have e1 : (pc == (n : Int)) = false := beq_eq_false_iff_ne.2 (by omega)
  clear hl1 hk
  have d1 : (a9 == 2) = true := by simpa using hs
  have d3 : (a9 != 2) = false := by simpa using hs
  have d2 : (rn == 1099511627776) = false := by simpa using hr
  clear hs hr h
  have hb2 : ¬ (200 : Int) < n := by omega
  obtain ⟨kb0, hb0⟩ := lies1 w #[.int .i64 a0, .int .i64 tn, .int .i64 pg, .int .i64 pc, .int .i64 un, .int .i64 k0, .int .i64 k1, .int .i64 k2, .int .i64 k3, .int .i64 a9, .int .i64 rn] 24
  obtain ⟨V, hV⟩ : ∃ V, w.alloc (.cells #[.int .i64 a0, .int .i64 tn, .int .i64 pg, .int .i64 pc, .int .i64 un, .int .i64 k0, .int .i64 k1, .int .i64 k2, .int .i64 k3, .int .i64 a9, .int .i64 rn] 24) = V := ⟨_, rfl⟩
  rw [hV] at hb0 kb0
  have HV := Lib.hid hV
  have BB := Lib.hid hb0
  have Kt := Lib.hid kb0
  have HBt : Hid (w.heap.size ≤ w.heap.size) := Lib.hid (by omega)
  clear hV hb0 kb0
  go_enter Tryd.func6, Tryd.ntmps6
  go_upto_region 1 with fail
  rw [HV.out]
  clear HV
  go_wp2_with fail
  refine (live_any _ (HF.out.le BB.out)).mono ?_
  rintro e U1 ⟨rfl, bU1⟩
  replace BB := Lib.hid (below3 BB.out bU1)
  replace Kt := Lib.hid (Kt.out.below bU1 Kt.out.lt)
  clear bU1
  obtain ⟨qt_0, qt_1, qt_2, qt_3, qt_4, qt_5, qt_6, qt_7, qt_8, qt_9, qt_10⟩ := Kt.out.c11
  have lt := Kt.out.lt
  go_wp2_with fail
  refine (CD.out _ BB.out).mono ?_
  rintro e U2 ⟨rfl, bU2⟩
  clear qt_0 qt_1 qt_2 qt_3 qt_4 qt_5 qt_6 qt_7 qt_8 qt_9 qt_10 lt
  replace BB := Lib.hid (below3 BB.out bU2)
  replace Kt := Lib.hid (Kt.out.below bU2 Kt.out.lt)
  clear bU2
  obtain ⟨kn, km, ba⟩ := lies2 U2 #[.int .i64 a0, .int .i64 a1, .int .i64 a2, .int .i64 a3, .int .i64 a4, .int .i64 a5, .int .i64 a6, .int .i64 a7, .int .i64 a8, .int .i64 a9, .int .i64 a10] #[.int .i64 xo, .int .i64 xa, .int .i64 xb] 24 28
  have hgb := BB.out.size
  have nt_a := Kt.out.lt
  replace BB := Lib.hid (below3 BB.out ba)
  replace Kt := Lib.hid (Kt.out.below ba Kt.out.lt)
  obtain ⟨ga, hg⟩ : ∃ g, U2.heap.size = g := ⟨_, rfl⟩
  obtain ⟨V3, hW⟩ : ∃ W, (U2.alloc (.cells #[.int .i64 a0, .int .i64 a1, .int .i64 a2, .int .i64 a3, .int .i64 a4, .int .i64 a5, .int .i64 a6, .int .i64 a7, .int .i64 a8, .int .i64 a9, .int .i64 a10] 24)).alloc (.cells #[.int .i64 xo, .int .i64 xa, .int .i64 xb] 28) = W := ⟨_, rfl⟩
  rw [hW] at BB kn km Kt
  rw [hg] at kn km hgb nt_a
  have Ka := Lib.hid kn
  have Kx := Lib.hid km
  have HGa := Lib.hid hg
  have HWa := Lib.hid hW
  have HBa := Lib.hid hgb
  have HBx : Hid (w.heap.size ≤ ga + 1) := Lib.hid (by omega)
  have Na_x : Hid (ga ≠ ga + 1) := Lib.hid (by omega)
  have Nt_a : Hid (w.heap.size ≠ ga) := Lib.hid (by omega)
  have Nt_x : Hid (w.heap.size ≠ ga + 1) := Lib.hid (by omega)
  clear hW hg kn km ba hgb nt_a
  go_upto_region 7 with fail
  rw [HWa.out]
  try rw [HGa.out]
  clear HWa HGa
  obtain ⟨qt_0, qt_1, qt_2, qt_3, qt_4, qt_5, qt_6, qt_7, qt_8, qt_9, qt_10⟩ := Kt.out.c11
  have lt := Kt.out.lt
  go_wp2_with fail
  refine (CN.out _ BB.out).mono ?_
  rintro e U4 ⟨rfl, bU4⟩
  clear qt_0 qt_1 qt_2 qt_3 qt_4 qt_5 qt_6 qt_7 qt_8 qt_9 qt_10 lt
  replace BB := Lib.hid (below3 BB.out bU4)
  replace Kt := Lib.hid (Kt.out.below bU4 Kt.out.lt)
  replace Ka := Lib.hid (Ka.out.below bU4 Ka.out.lt)
  replace Kx := Lib.hid (Kx.out.below bU4 Kx.out.lt)
  clear bU4
  have kn := Bk.new U4 37 #[.int .i64 io, .int .i64 ia, .int .i64 ib]
  have ba := (Below.refl U4.heap.size U4).alloc (Nat.le_refl _) (.cells #[.int .i64 io, .int .i64 ia, .int .i64 ib] 37)
  have hgb := BB.out.size
  have nt_i := Nat.ne_of_lt Kt.out.lt
  have na_i := Nat.ne_of_lt Ka.out.lt
  have nx_i := Nat.ne_of_lt Kx.out.lt
  replace BB := Lib.hid (below3 BB.out ba)
  replace Kt := Lib.hid (Kt.out.below ba Kt.out.lt)
  replace Ka := Lib.hid (Ka.out.below ba Ka.out.lt)
  replace Kx := Lib.hid (Kx.out.below ba Kx.out.lt)
  obtain ⟨gi, hg⟩ : ∃ g, U4.heap.size = g := ⟨_, rfl⟩
  obtain ⟨V5, hW⟩ : ∃ W, U4.alloc (.cells #[.int .i64 io, .int .i64 ia, .int .i64 ib] 37) = W := ⟨_, rfl⟩
  have Ki := Lib.hid kn
  rw [hW] at BB Ki Kt Ka Kx
  rw [hg] at Ki hgb nt_i na_i nx_i
  have HGi := Lib.hid hg
  have HWi := Lib.hid hW
  have HBi := Lib.hid hgb
  have Nt_i := Lib.hid nt_i
  have Na_i := Lib.hid na_i
  have Nx_i := Lib.hid nx_i
  clear hW hg kn ba hgb nt_i na_i nx_i
  go_upto_region 8 with fail
  rw [HWi.out]
  try rw [HGi.out]
  clear HWi HGi
  obtain ⟨qt_0, qt_1, qt_2, qt_3, qt_4, qt_5, qt_6, qt_7, qt_8, qt_9, qt_10⟩ := Kt.out.c11
  have lt := Kt.out.lt
  go_wp2_with fail
  refine (CL.out _ BB.out).mono ?_
  rintro e U6 ⟨rfl, bU6⟩
  clear qt_0 qt_1 qt_2 qt_3 qt_4 qt_5 qt_6 qt_7 qt_8 qt_9 qt_10 lt
  replace BB := Lib.hid (below3 BB.out bU6)
  replace Kt := Lib.hid (Kt.out.below bU6 Kt.out.lt)
  replace Ka := Lib.hid (Ka.out.below bU6 Ka.out.lt)
  replace Kx := Lib.hid (Kx.out.below bU6 Kx.out.lt)
  replace Ki := Lib.hid (Ki.out.below bU6 Ki.out.lt)
  clear bU6
  obtain ⟨qa_0, qa_1, qa_2, qa_3, qa_4, qa_5, qa_6, qa_7, qa_8, qa_9, qa_10⟩ := Ka.out.c11
  have la := Ka.out.lt
  go_wp2_with fail
  refine (CM.out _ BB.out).mono ?_
  rintro e U7 ⟨rfl, bU7⟩
  clear qa_0 qa_1 qa_2 qa_3 qa_4 qa_5 qa_6 qa_7 qa_8 qa_9 qa_10 la
  replace BB := Lib.hid (below3 BB.out bU7)
  replace Kt := Lib.hid (Kt.out.below bU7 Kt.out.lt)
  replace Ka := Lib.hid (Ka.out.below bU7 Ka.out.lt)
  replace Kx := Lib.hid (Kx.out.below bU7 Kx.out.lt)
  replace Ki := Lib.hid (Ki.out.below bU7 Ki.out.lt)
  clear bU7
  obtain ⟨qt_0, qt_1, qt_2, qt_3, qt_4, qt_5, qt_6, qt_7, qt_8, qt_9, qt_10⟩ := Kt.out.c11
  have lt := Kt.out.lt
  obtain ⟨qa_0, qa_1, qa_2, qa_3, qa_4, qa_5, qa_6, qa_7, qa_8, qa_9, qa_10⟩ := Ka.out.c11
  have la := Ka.out.lt
  obtain ⟨qx_0, qx_1, qx_2⟩ := Kx.out.c3
  have lx := Kx.out.lt
  go_wp2
  go_ret
  exact ⟨rfl, BB.out⟩

theorem lends_any (t : Tk) (A : Option Addr) (n c : Nat) (p : List I3) (w : World) (hp : Prog w A n c p) (hF : Fol w) : Calls Tryd.prog 6 #[.agg (tc t), .slice A n c] w (TrueAns w) := by
  by_cases hb : 200 < n
  · exact lends_1 t A n c p w hp hF hb
  · by_cases h : okF t p
    · by_cases hs : t.st = 2
      · by_cases hr : t.rn = 1099511627776
        · exact lends_4 t A n c p w hp hF hb h hs hr
        · by_cases hl : t.pc < n
          · exact lends_6 t A n c p w hp hF hb h hs hr hl
          · exact lends_5 t A n c p w hp hF hb h hs hr hl
      · exact lends_3 t A n c p w hp hF hb h hs
    · exact lends_2 t A n c p w hp hF hb h

end Go.Proofs.YtlbmlhcphoiaeaaDoor

/-
  The walk of the law StepNext of layer 13.
-/
import Derived.Test.YtlbmlhcphoiaeaaDoorSto
import Derived.Test.YtlbmlhcphoiaeaaDoorSth
import Derived.Test.YtlbmlhcphoiaeaaDoorTkj
namespace Go.Proofs.YtlbmlhcphoiaeaaDoor
open Go.RowKit

/-- What a unit asks for, and that another task at the same place does the same. -/
theorem next_do {t : Tk} {p : List I3} (h : (doR t p).2.2 = 0) (i2 tn2 : Int) : nextR t p = (atI p t.pc, 0) ∧ ((atI p t.pc).1 = 1 → (doR t p).2.1 = zI) ∧ ((atI p t.pc).1 ≠ 1 → (doR t p).2.1 = atI p t.pc) ∧
    ((doR { t with id := i2, tn := tn2 } p).2.2 ≠ 0 → chkE { t with id := i2, tn := tn2 } = (doR { t with id := i2, tn := tn2 } p).2.2) ∧
    ((doR { t with id := i2, tn := tn2 } p).2.2 = 0 → doR { t with id := i2, tn := tn2 } p = ({ (doR t p).1 with id := i2, tn := tn2 }, (doR t p).2.1, 0)) := by
  obtain ⟨h1, h2, h3⟩ := do_ok h
  obtain ⟨u1, u2, u3⟩ := unit_ok h2
  rw [h3, u3]
  refine ⟨nextR_yes h1, fun q => if_pos q, fun q => if_neg q, fun q => ?_, fun q => ?_⟩
  · by_cases ho : okT { t with id := i2, tn := tn2 }
    · exfalso
      have hk : okF { t with id := i2, tn := tn2 } p := ⟨ho, h1.2⟩
      rw [doR_yes hk] at q
      unfold unitR at q
      dsimp only at q
      rw [if_neg (fun e => e u1), if_neg u2] at q
      exact q rfl
    · rw [doR_no (fun e => ho e.1)]
      exact chk_1 ho
  · obtain ⟨k1, k2, k3⟩ := do_ok q
    rw [k3]
    unfold unitR
    dsimp only
    rw [if_neg (fun e => e u1), if_neg u2]
    unfold goT goW
    dsimp only
    split
    · split <;> rfl
    · rfl

set_option maxRecDepth 100000 in
set_option maxHeartbeats 8000000 in
theorem lnext_1 (t : Tk) (A : Option Addr) (n c : Nat) (p : List I3) (i2 tn2 : Int) (w : World) (hp : Prog w A n c p) (hF : Fol w) (hb : 200 < n) : Calls Tryd.prog 7 #[.agg (tc t), .slice A n c, .int .i64 i2, .int .i64 tn2] w (TrueAns w) := by
  have HP := Lib.hid hp
  have HN := Lib.hid hp.1
  have hn := Nat.le_trans hp.2.1.1 hp.2.1.2
  have HF := Lib.hid hF
  clear hp hF
  obtain ⟨id, tn, pg, pc, un, k0, k1, k2, k3, st, rn⟩ := t
  unfold tc
  dsimp only
  have h2 : (200 : Int) < n := by omega
  obtain ⟨kb0, hb0⟩ := lies1 w #[.int .i64 id, .int .i64 tn, .int .i64 pg, .int .i64 pc, .int .i64 un, .int .i64 k0, .int .i64 k1, .int .i64 k2, .int .i64 k3, .int .i64 st, .int .i64 rn] 24
  obtain ⟨V, hV⟩ : ∃ V, w.alloc (.cells #[.int .i64 id, .int .i64 tn, .int .i64 pg, .int .i64 pc, .int .i64 un, .int .i64 k0, .int .i64 k1, .int .i64 k2, .int .i64 k3, .int .i64 st, .int .i64 rn] 24) = V := ⟨_, rfl⟩
  rw [hV] at hb0 kb0
  have HV := Lib.hid hV
  have BB := Lib.hid hb0
  have Kt := Lib.hid kb0
  have HBt : Hid (w.heap.size ≤ w.heap.size) := Lib.hid (by omega)
  clear hV hb0 kb0
  go_enter Tryd.func7, Tryd.ntmps7
  go_upto_region 1 with fail
  rw [HV.out]
  clear HV
  go_wp2_with fail
  refine (live_any _ (HF.out.le BB.out)).mono ?_
  rintro e U1 ⟨rfl, bU1⟩
  replace BB := Lib.hid (below3 BB.out bU1)
  replace Kt := Lib.hid (Kt.out.below bU1 Kt.out.lt)
  clear bU1
  go_wp2
  go_ret
  exact ⟨rfl, BB.out⟩

set_option maxRecDepth 100000 in
set_option maxHeartbeats 8000000 in
theorem lnext_2 (t : Tk) (A : Option Addr) (n c : Nat) (p : List I3) (i2 tn2 : Int) (w : World) (hp : Prog w A n c p) (hF : Fol w) (hb : ¬ 200 < n) (hf : (doR t p).2.2 ≠ 0) : Calls Tryd.prog 7 #[.agg (tc t), .slice A n c, .int .i64 i2, .int .i64 tn2] w (TrueAns w) := by
  have HP := Lib.hid hp
  have HN := Lib.hid hp.1
  have hn := Nat.le_trans hp.2.1.1 hp.2.1.2
  have HF := Lib.hid hF
  clear hp hF
  have CN := Lib.hid (fun (W : World) (h : Below w.heap.size w W) => next_any t A n c p W (HP.out.below h))
  have CD := Lib.hid (fun (W : World) (h : Below w.heap.size w W) => do_any t A n c p W (HP.out.below h))
  have HX := Lib.hid (fun q => next_do (t := t) (p := p) q)
  generalize nextR t p = nn at CN HX
  generalize doR t p = dd at CD HX hf
  obtain ⟨⟨io, ia, ib⟩, ie⟩ := nn
  obtain ⟨⟨a0, a1, a2, a3, a4, a5, a6, a7, a8, a9, a10⟩, ⟨xo, xa, xb⟩, f⟩ := dd
  clear HX
  obtain ⟨id, tn, pg, pc, un, k0, k1, k2, k3, st, rn⟩ := t
  unfold tc vI at CN CD
  unfold tc
  dsimp only at CN CD hf ⊢
  have hf2 : (f != 0) = true := by simpa using hf
  have hb2 : ¬ (200 : Int) < n := by omega
  obtain ⟨kb0, hb0⟩ := lies1 w #[.int .i64 id, .int .i64 tn, .int .i64 pg, .int .i64 pc, .int .i64 un, .int .i64 k0, .int .i64 k1, .int .i64 k2, .int .i64 k3, .int .i64 st, .int .i64 rn] 24
  obtain ⟨V, hV⟩ : ∃ V, w.alloc (.cells #[.int .i64 id, .int .i64 tn, .int .i64 pg, .int .i64 pc, .int .i64 un, .int .i64 k0, .int .i64 k1, .int .i64 k2, .int .i64 k3, .int .i64 st, .int .i64 rn] 24) = V := ⟨_, rfl⟩
  rw [hV] at hb0 kb0
  have HV := Lib.hid hV
  have BB := Lib.hid hb0
  have Kt := Lib.hid kb0
  have HBt : Hid (w.heap.size ≤ w.heap.size) := Lib.hid (by omega)
  clear hV hb0 kb0
  go_enter Tryd.func7, Tryd.ntmps7
  go_upto_region 1 with fail
  rw [HV.out]
  clear HV
  go_wp2_with fail
  refine (live_any _ (HF.out.le BB.out)).mono ?_
  rintro e U1 ⟨rfl, bU1⟩
  replace BB := Lib.hid (below3 BB.out bU1)
  replace Kt := Lib.hid (Kt.out.below bU1 Kt.out.lt)
  clear bU1
  obtain ⟨qt_0, qt_1, qt_2, qt_3, qt_4, qt_5, qt_6, qt_7, qt_8, qt_9, qt_10⟩ := Kt.out.c11
  have lt := Kt.out.lt
  go_wp2_with fail
  refine (CN.out _ BB.out).mono ?_
  rintro e U2 ⟨rfl, bU2⟩
  clear qt_0 qt_1 qt_2 qt_3 qt_4 qt_5 qt_6 qt_7 qt_8 qt_9 qt_10 lt
  replace BB := Lib.hid (below3 BB.out bU2)
  replace Kt := Lib.hid (Kt.out.below bU2 Kt.out.lt)
  clear bU2
  have kn := Bk.new U2 37 #[.int .i64 io, .int .i64 ia, .int .i64 ib]
  have ba := (Below.refl U2.heap.size U2).alloc (Nat.le_refl _) (.cells #[.int .i64 io, .int .i64 ia, .int .i64 ib] 37)
  have hgb := BB.out.size
  have nt_i := Nat.ne_of_lt Kt.out.lt
  replace BB := Lib.hid (below3 BB.out ba)
  replace Kt := Lib.hid (Kt.out.below ba Kt.out.lt)
  obtain ⟨gi, hg⟩ : ∃ g, U2.heap.size = g := ⟨_, rfl⟩
  obtain ⟨V3, hW⟩ : ∃ W, U2.alloc (.cells #[.int .i64 io, .int .i64 ia, .int .i64 ib] 37) = W := ⟨_, rfl⟩
  have Ki := Lib.hid kn
  rw [hW] at BB Ki Kt
  rw [hg] at Ki hgb nt_i
  have HGi := Lib.hid hg
  have HWi := Lib.hid hW
  have HBi := Lib.hid hgb
  have Nt_i := Lib.hid nt_i
  clear hW hg kn ba hgb nt_i
  go_upto_region 7 with fail
  rw [HWi.out]
  try rw [HGi.out]
  clear HWi HGi
  obtain ⟨qt_0, qt_1, qt_2, qt_3, qt_4, qt_5, qt_6, qt_7, qt_8, qt_9, qt_10⟩ := Kt.out.c11
  have lt := Kt.out.lt
  go_wp2_with fail
  refine (CD.out _ BB.out).mono ?_
  rintro e U4 ⟨rfl, bU4⟩
  clear qt_0 qt_1 qt_2 qt_3 qt_4 qt_5 qt_6 qt_7 qt_8 qt_9 qt_10 lt
  replace BB := Lib.hid (below3 BB.out bU4)
  replace Kt := Lib.hid (Kt.out.below bU4 Kt.out.lt)
  replace Ki := Lib.hid (Ki.out.below bU4 Ki.out.lt)
  clear bU4
  obtain ⟨kn, km, ba⟩ := lies2 U4 #[.int .i64 a0, .int .i64 a1, .int .i64 a2, .int .i64 a3, .int .i64 a4, .int .i64 a5, .int .i64 a6, .int .i64 a7, .int .i64 a8, .int .i64 a9, .int .i64 a10] #[.int .i64 xo, .int .i64 xa, .int .i64 xb] 24 28
  have hgb := BB.out.size
  have nt_a := Kt.out.lt
  have ni_a := Ki.out.lt
  replace BB := Lib.hid (below3 BB.out ba)
  replace Kt := Lib.hid (Kt.out.below ba Kt.out.lt)
  replace Ki := Lib.hid (Ki.out.below ba Ki.out.lt)
  obtain ⟨ga, hg⟩ : ∃ g, U4.heap.size = g := ⟨_, rfl⟩
  obtain ⟨V5, hW⟩ : ∃ W, (U4.alloc (.cells #[.int .i64 a0, .int .i64 a1, .int .i64 a2, .int .i64 a3, .int .i64 a4, .int .i64 a5, .int .i64 a6, .int .i64 a7, .int .i64 a8, .int .i64 a9, .int .i64 a10] 24)).alloc (.cells #[.int .i64 xo, .int .i64 xa, .int .i64 xb] 28) = W := ⟨_, rfl⟩
  rw [hW] at BB kn km Kt Ki
  rw [hg] at kn km hgb nt_a ni_a
  have Ka := Lib.hid kn
  have Kx := Lib.hid km
  have HGa := Lib.hid hg
  have HWa := Lib.hid hW
  have HBa := Lib.hid hgb
  have HBx : Hid (w.heap.size ≤ ga + 1) := Lib.hid (by omega)
  have Na_x : Hid (ga ≠ ga + 1) := Lib.hid (by omega)
  have Nt_a : Hid (w.heap.size ≠ ga) := Lib.hid (by omega)
  have Nt_x : Hid (w.heap.size ≠ ga + 1) := Lib.hid (by omega)
  have Ni_a : Hid (gi ≠ ga) := Lib.hid (by omega)
  have Ni_x : Hid (gi ≠ ga + 1) := Lib.hid (by omega)
  clear hW hg kn km ba hgb nt_a ni_a
  go_upto_region 8 with fail
  rw [HWa.out]
  try rw [HGa.out]
  clear HWa HGa
  go_wp2
  go_ret
  exact ⟨rfl, BB.out⟩

set_option maxRecDepth 100000 in
set_option maxHeartbeats 8000000 in
theorem lnext_3 (t : Tk) (A : Option Addr) (n c : Nat) (p : List I3) (i2 tn2 : Int) (w : World) (hp : Prog w A n c p) (hF : Fol w) (hb : ¬ 200 < n) (hf : (doR t p).2.2 = 0) (hg : (doR { t with id := i2, tn := tn2 } p).2.2 = 0) (hio : (atI p t.pc).1 = 1) : Calls Tryd.prog 7 #[.agg (tc t), .slice A n c, .int .i64 i2, .int .i64 tn2] w (TrueAns w) := by
  have HP := Lib.hid hp
  have HN := Lib.hid hp.1
  have hn := Nat.le_trans hp.2.1.1 hp.2.1.2
  have HF := Lib.hid hF
  clear hp hF
  have hid : (doR t p).1.id = t.id ∧ (doR t p).1.tn = t.tn := by obtain ⟨_, q2, q3⟩ := do_ok hf; rw [q3]; exact unit_ids q2
  obtain ⟨hn1, hx1, hx2, hg1, hg2⟩ := next_do (t := t) (p := p) hf i2 tn2
  have CN := Lib.hid (fun (W : World) (h : Below w.heap.size w W) => hn1 ▸ next_any t A n c p W (HP.out.below h))
  have CD := Lib.hid (fun (W : World) (h : Below w.heap.size w W) => do_any t A n c p W (HP.out.below h))
  have CE := Lib.hid (fun (W : World) (h : Below w.heap.size w W) => do_any { t with id := i2, tn := tn2 } A n c p W (HP.out.below h))
  have CC := Lib.hid (fun (W : World) => chk_any { t with id := i2, tn := tn2 } W)
  rw [hg2 hg] at CE
  clear hg1 hg2 hg
  have hf0 := hf
  generalize doR t p = dd at *
  generalize atI p t.pc = nn at *
  obtain ⟨io, ia, ib⟩ := nn
  obtain ⟨⟨a0, a1, a2, a3, a4, a5, a6, a7, a8, a9, a10⟩, ⟨xo, xa, xb⟩, f⟩ := dd
  obtain ⟨id, tn, pg, pc, un, k0, k1, k2, k3, st, rn⟩ := t
  unfold tc vI at CN CD CE
  unfold tc at CC
  unfold tc
  dsimp only at *
  subst hf
  clear hf0
  obtain ⟨rfl, rfl⟩ := hid
  obtain rfl : io = 1 := hio
  have hx := hx1 rfl
  unfold zI at hx
  injection hx with e0 e1
  injection e1 with e1 e2
  subst e0 e1 e2
  clear hx1 hx2
  have hb2 : ¬ (200 : Int) < n := by omega
  have E1 := eql_task ⟨a0, a1, a2, a3, a4, a5, a6, a7, a8, a9, a10⟩
  unfold tc at E1
  dsimp only at E1
  have HE1 := Lib.hid E1
  clear E1 hn1
  obtain ⟨kb0, hb0⟩ := lies1 w #[.int .i64 a0, .int .i64 a1, .int .i64 pg, .int .i64 pc, .int .i64 un, .int .i64 k0, .int .i64 k1, .int .i64 k2, .int .i64 k3, .int .i64 st, .int .i64 rn] 24
  obtain ⟨V, hV⟩ : ∃ V, w.alloc (.cells #[.int .i64 a0, .int .i64 a1, .int .i64 pg, .int .i64 pc, .int .i64 un, .int .i64 k0, .int .i64 k1, .int .i64 k2, .int .i64 k3, .int .i64 st, .int .i64 rn] 24) = V := ⟨_, rfl⟩
  rw [hV] at hb0 kb0
  have HV := Lib.hid hV
  have BB := Lib.hid hb0
  have Kt := Lib.hid kb0
  have HBt : Hid (w.heap.size ≤ w.heap.size) := Lib.hid (by omega)
  clear hV hb0 kb0
  go_enter Tryd.func7, Tryd.ntmps7
  go_upto_region 1 with fail
  rw [HV.out]
  clear HV
  go_wp2_with fail
  refine (live_any _ (HF.out.le BB.out)).mono ?_
  rintro e U1 ⟨rfl, bU1⟩
  replace BB := Lib.hid (below3 BB.out bU1)
  replace Kt := Lib.hid (Kt.out.below bU1 Kt.out.lt)
  clear bU1
  obtain ⟨qt_0, qt_1, qt_2, qt_3, qt_4, qt_5, qt_6, qt_7, qt_8, qt_9, qt_10⟩ := Kt.out.c11
  have lt := Kt.out.lt
  go_wp2_with fail
  refine (CN.out _ BB.out).mono ?_
  rintro e U2 ⟨rfl, bU2⟩
  clear qt_0 qt_1 qt_2 qt_3 qt_4 qt_5 qt_6 qt_7 qt_8 qt_9 qt_10 lt
  replace BB := Lib.hid (below3 BB.out bU2)
  replace Kt := Lib.hid (Kt.out.below bU2 Kt.out.lt)
  clear bU2
  have kn := Bk.new U2 37 #[.int .i64 1, .int .i64 ia, .int .i64 ib]
  have ba := (Below.refl U2.heap.size U2).alloc (Nat.le_refl _) (.cells #[.int .i64 1, .int .i64 ia, .int .i64 ib] 37)
  have hgb := BB.out.size
  have nt_i := Nat.ne_of_lt Kt.out.lt
  replace BB := Lib.hid (below3 BB.out ba)
  replace Kt := Lib.hid (Kt.out.below ba Kt.out.lt)
  obtain ⟨gi, hg⟩ : ∃ g, U2.heap.size = g := ⟨_, rfl⟩
  obtain ⟨V3, hW⟩ : ∃ W, U2.alloc (.cells #[.int .i64 1, .int .i64 ia, .int .i64 ib] 37) = W := ⟨_, rfl⟩
  have Ki := Lib.hid kn
  rw [hW] at BB Ki Kt
  rw [hg] at Ki hgb nt_i
  have HGi := Lib.hid hg
  have HWi := Lib.hid hW
  have HBi := Lib.hid hgb
  have Nt_i := Lib.hid nt_i
  clear hW hg kn ba hgb nt_i
  go_upto_region 7 with fail
  rw [HWi.out]
  try rw [HGi.out]
  clear HWi HGi
  obtain ⟨qt_0, qt_1, qt_2, qt_3, qt_4, qt_5, qt_6, qt_7, qt_8, qt_9, qt_10⟩ := Kt.out.c11
  have lt := Kt.out.lt
  go_wp2_with fail
  refine (CD.out _ BB.out).mono ?_
  rintro e U4 ⟨rfl, bU4⟩
  clear qt_0 qt_1 qt_2 qt_3 qt_4 qt_5 qt_6 qt_7 qt_8 qt_9 qt_10 lt
  replace BB := Lib.hid (below3 BB.out bU4)
  replace Kt := Lib.hid (Kt.out.below bU4 Kt.out.lt)
  replace Ki := Lib.hid (Ki.out.below bU4 Ki.out.lt)
  clear bU4
  obtain ⟨kn, km, ba⟩ := lies2 U4 #[.int .i64 a0, .int .i64 a1, .int .i64 a2, .int .i64 a3, .int .i64 a4, .int .i64 a5, .int .i64 a6, .int .i64 a7, .int .i64 a8, .int .i64 a9, .int .i64 a10] #[.int .i64 0, .int .i64 0, .int .i64 0] 24 28
  have hgb := BB.out.size
  have nt_a := Kt.out.lt
  have ni_a := Ki.out.lt
  replace BB := Lib.hid (below3 BB.out ba)
  replace Kt := Lib.hid (Kt.out.below ba Kt.out.lt)
  replace Ki := Lib.hid (Ki.out.below ba Ki.out.lt)
  obtain ⟨ga, hg⟩ : ∃ g, U4.heap.size = g := ⟨_, rfl⟩
  obtain ⟨V5, hW⟩ : ∃ W, (U4.alloc (.cells #[.int .i64 a0, .int .i64 a1, .int .i64 a2, .int .i64 a3, .int .i64 a4, .int .i64 a5, .int .i64 a6, .int .i64 a7, .int .i64 a8, .int .i64 a9, .int .i64 a10] 24)).alloc (.cells #[.int .i64 0, .int .i64 0, .int .i64 0] 28) = W := ⟨_, rfl⟩
  rw [hW] at BB kn km Kt Ki
  rw [hg] at kn km hgb nt_a ni_a
  have Ka := Lib.hid kn
  have Kx := Lib.hid km
  have HGa := Lib.hid hg
  have HWa := Lib.hid hW
  have HBa := Lib.hid hgb
  have HBx : Hid (w.heap.size ≤ ga + 1) := Lib.hid (by omega)
  have Na_x : Hid (ga ≠ ga + 1) := Lib.hid (by omega)
  have Nt_a : Hid (w.heap.size ≠ ga) := Lib.hid (by omega)
  have Nt_x : Hid (w.heap.size ≠ ga + 1) := Lib.hid (by omega)
  have Ni_a : Hid (gi ≠ ga) := Lib.hid (by omega)
  have Ni_x : Hid (gi ≠ ga + 1) := Lib.hid (by omega)
  clear hW hg kn km ba hgb nt_a ni_a
  go_upto_region 8 with fail
  rw [HWa.out]
  try rw [HGa.out]
  clear HWa HGa
  obtain ⟨qi_0, qi_1, qi_2⟩ := Ki.out.c3
  have li := Ki.out.lt
  obtain ⟨qx_0, qx_1, qx_2⟩ := Kx.out.c3
  have lx := Kx.out.lt
  obtain ⟨qt_0, qt_1, qt_2, qt_3, qt_4, qt_5, qt_6, qt_7, qt_8, qt_9, qt_10⟩ := Kt.out.c11
  have lt := Kt.out.lt
  skip
  have kn := Bk.new V5 24 #[.int .i64 a0, .int .i64 a1, .int .i64 pg, .int .i64 pc, .int .i64 un, .int .i64 k0, .int .i64 k1, .int .i64 k2, .int .i64 k3, .int .i64 st, .int .i64 rn]
  have ba := (Below.refl V5.heap.size V5).alloc (Nat.le_refl _) (.cells #[.int .i64 a0, .int .i64 a1, .int .i64 pg, .int .i64 pc, .int .i64 un, .int .i64 k0, .int .i64 k1, .int .i64 k2, .int .i64 k3, .int .i64 st, .int .i64 rn] 24)
  have hgb := BB.out.size
  have nt_o := Nat.ne_of_lt Kt.out.lt
  have ni_o := Nat.ne_of_lt Ki.out.lt
  have na_o := Nat.ne_of_lt Ka.out.lt
  have nx_o := Nat.ne_of_lt Kx.out.lt
  replace BB := Lib.hid (below3 BB.out ba)
  replace Kt := Lib.hid (Kt.out.below ba Kt.out.lt)
  replace Ki := Lib.hid (Ki.out.below ba Ki.out.lt)
  replace Ka := Lib.hid (Ka.out.below ba Ka.out.lt)
  replace Kx := Lib.hid (Kx.out.below ba Kx.out.lt)
  obtain ⟨go, hg⟩ : ∃ g, V5.heap.size = g := ⟨_, rfl⟩
  obtain ⟨V6, hW⟩ : ∃ W, V5.alloc (.cells #[.int .i64 a0, .int .i64 a1, .int .i64 pg, .int .i64 pc, .int .i64 un, .int .i64 k0, .int .i64 k1, .int .i64 k2, .int .i64 k3, .int .i64 st, .int .i64 rn] 24) = W := ⟨_, rfl⟩
  have Ko := Lib.hid kn
  rw [hW] at BB Ko Kt Ki Ka Kx
  rw [hg] at Ko hgb nt_o ni_o na_o nx_o
  have HGo := Lib.hid hg
  have HWo := Lib.hid hW
  have HBo := Lib.hid hgb
  have Nt_o := Lib.hid nt_o
  have Ni_o := Lib.hid ni_o
  have Na_o := Lib.hid na_o
  have Nx_o := Lib.hid nx_o
  clear hW hg kn ba hgb nt_o ni_o na_o nx_o
  go_upto_region 13 with fail
  rw [HWo.out]
  try rw [HGo.out]
  clear HWo HGo
  clear qi_0 qi_1 qi_2 li qx_0 qx_1 qx_2 lx qt_0 qt_1 qt_2 qt_3 qt_4 qt_5 qt_6 qt_7 qt_8 qt_9 qt_10 lt
  obtain ⟨qo_0, qo_1, qo_2, qo_3, qo_4, qo_5, qo_6, qo_7, qo_8, qo_9, qo_10⟩ := Ko.out.c11
  have lo := Ko.out.lt
  obtain ⟨fo_0, fo_1, fo_2, fo_3, fo_4, fo_5, fo_6, fo_7, fo_8, fo_9, fo_10⟩ := Ko.out.f11
  have x0 : Bk _ go 24 #[.int .i64 i2, .int .i64 a1, .int .i64 pg, .int .i64 pc, .int .i64 un, .int .i64 k0, .int .i64 k1, .int .i64 k2, .int .i64 k3, .int .i64 st, .int .i64 rn] := Ko.out.set_ 0 (.int .i64 i2)
  have x_t := Kt.out.far (p := ⟨go, 0, none⟩) Nt_o.out (.int .i64 i2)
  have x_i := Ki.out.far (p := ⟨go, 0, none⟩) Ni_o.out (.int .i64 i2)
  have x_a := Ka.out.far (p := ⟨go, 0, none⟩) Na_o.out (.int .i64 i2)
  have x_x := Kx.out.far (p := ⟨go, 0, none⟩) Nx_o.out (.int .i64 i2)
  have xb := BB.out.setCell (p := ⟨go, 0, none⟩) HBo.out (.int .i64 i2)
  obtain ⟨X7, hX⟩ : ∃ X, World.setCell V6 ⟨go, 0, none⟩ (.int .i64 i2) = X := ⟨_, rfl⟩
  rw [hX] at x0 xb x_t x_i x_a x_x
  have HX := Lib.hid hX
  replace Ko := Lib.hid x0
  replace BB := Lib.hid xb
  replace Kt := Lib.hid x_t
  replace Ki := Lib.hid x_i
  replace Ka := Lib.hid x_a
  replace Kx := Lib.hid x_x
  clear hX x0 xb x_t x_i x_a x_x
  go_upto_region 14 with fail
  rw [HX.out]
  clear HX
  clear qo_0 qo_1 qo_2 qo_3 qo_4 qo_5 qo_6 qo_7 qo_8 qo_9 qo_10 lo fo_0 fo_1 fo_2 fo_3 fo_4 fo_5 fo_6 fo_7 fo_8 fo_9 fo_10
  obtain ⟨qo_0, qo_1, qo_2, qo_3, qo_4, qo_5, qo_6, qo_7, qo_8, qo_9, qo_10⟩ := Ko.out.c11
  have lo := Ko.out.lt
  obtain ⟨fo_0, fo_1, fo_2, fo_3, fo_4, fo_5, fo_6, fo_7, fo_8, fo_9, fo_10⟩ := Ko.out.f11
  have x0 : Bk _ go 24 #[.int .i64 i2, .int .i64 tn2, .int .i64 pg, .int .i64 pc, .int .i64 un, .int .i64 k0, .int .i64 k1, .int .i64 k2, .int .i64 k3, .int .i64 st, .int .i64 rn] := Ko.out.set_ 1 (.int .i64 tn2)
  have x_t := Kt.out.far (p := ⟨go, 1, none⟩) Nt_o.out (.int .i64 tn2)
  have x_i := Ki.out.far (p := ⟨go, 1, none⟩) Ni_o.out (.int .i64 tn2)
  have x_a := Ka.out.far (p := ⟨go, 1, none⟩) Na_o.out (.int .i64 tn2)
  have x_x := Kx.out.far (p := ⟨go, 1, none⟩) Nx_o.out (.int .i64 tn2)
  have xb := BB.out.setCell (p := ⟨go, 1, none⟩) HBo.out (.int .i64 tn2)
  obtain ⟨X8, hX⟩ : ∃ X, World.setCell X7 ⟨go, 1, none⟩ (.int .i64 tn2) = X := ⟨_, rfl⟩
  rw [hX] at x0 xb x_t x_i x_a x_x
  have HX := Lib.hid hX
  replace Ko := Lib.hid x0
  replace BB := Lib.hid xb
  replace Kt := Lib.hid x_t
  replace Ki := Lib.hid x_i
  replace Ka := Lib.hid x_a
  replace Kx := Lib.hid x_x
  clear hX x0 xb x_t x_i x_a x_x
  go_upto_region 15 with fail
  rw [HX.out]
  clear HX
  clear qo_0 qo_1 qo_2 qo_3 qo_4 qo_5 qo_6 qo_7 qo_8 qo_9 qo_10 lo fo_0 fo_1 fo_2 fo_3 fo_4 fo_5 fo_6 fo_7 fo_8 fo_9 fo_10
  obtain ⟨qo_0, qo_1, qo_2, qo_3, qo_4, qo_5, qo_6, qo_7, qo_8, qo_9, qo_10⟩ := Ko.out.c11
  have lo := Ko.out.lt
  go_wp2_with fail
  refine (CE.out _ BB.out).mono ?_
  rintro e U9 ⟨rfl, bU9⟩
  clear qo_0 qo_1 qo_2 qo_3 qo_4 qo_5 qo_6 qo_7 qo_8 qo_9 qo_10 lo
  replace BB := Lib.hid (below3 BB.out bU9)
  replace Kt := Lib.hid (Kt.out.below bU9 Kt.out.lt)
  replace Ki := Lib.hid (Ki.out.below bU9 Ki.out.lt)
  replace Ka := Lib.hid (Ka.out.below bU9 Ka.out.lt)
  replace Kx := Lib.hid (Kx.out.below bU9 Kx.out.lt)
  replace Ko := Lib.hid (Ko.out.below bU9 Ko.out.lt)
  clear bU9
  obtain ⟨kn, km, ba⟩ := lies2 U9 #[.int .i64 i2, .int .i64 tn2, .int .i64 a2, .int .i64 a3, .int .i64 a4, .int .i64 a5, .int .i64 a6, .int .i64 a7, .int .i64 a8, .int .i64 a9, .int .i64 a10] #[.int .i64 0, .int .i64 0, .int .i64 0] 24 28
  have hgb := BB.out.size
  have nt_b := Kt.out.lt
  have ni_b := Ki.out.lt
  have na_b := Ka.out.lt
  have nx_b := Kx.out.lt
  have no_b := Ko.out.lt
  replace BB := Lib.hid (below3 BB.out ba)
  replace Kt := Lib.hid (Kt.out.below ba Kt.out.lt)
  replace Ki := Lib.hid (Ki.out.below ba Ki.out.lt)
  replace Ka := Lib.hid (Ka.out.below ba Ka.out.lt)
  replace Kx := Lib.hid (Kx.out.below ba Kx.out.lt)
  replace Ko := Lib.hid (Ko.out.below ba Ko.out.lt)
  obtain ⟨gb, hg⟩ : ∃ g, U9.heap.size = g := ⟨_, rfl⟩
  obtain ⟨V10, hW⟩ : ∃ W, (U9.alloc (.cells #[.int .i64 i2, .int .i64 tn2, .int .i64 a2, .int .i64 a3, .int .i64 a4, .int .i64 a5, .int .i64 a6, .int .i64 a7, .int .i64 a8, .int .i64 a9, .int .i64 a10] 24)).alloc (.cells #[.int .i64 0, .int .i64 0, .int .i64 0] 28) = W := ⟨_, rfl⟩
  rw [hW] at BB kn km Kt Ki Ka Kx Ko
  rw [hg] at kn km hgb nt_b ni_b na_b nx_b no_b
  have Kb := Lib.hid kn
  have Ky := Lib.hid km
  have HGa := Lib.hid hg
  have HWa := Lib.hid hW
  have HBb := Lib.hid hgb
  have HBy : Hid (w.heap.size ≤ gb + 1) := Lib.hid (by omega)
  have Nb_y : Hid (gb ≠ gb + 1) := Lib.hid (by omega)
  have Nt_b : Hid (w.heap.size ≠ gb) := Lib.hid (by omega)
  have Nt_y : Hid (w.heap.size ≠ gb + 1) := Lib.hid (by omega)
  have Ni_b : Hid (gi ≠ gb) := Lib.hid (by omega)
  have Ni_y : Hid (gi ≠ gb + 1) := Lib.hid (by omega)
  have Na_b : Hid (ga ≠ gb) := Lib.hid (by omega)
  have Na_y : Hid (ga ≠ gb + 1) := Lib.hid (by omega)
  have Nx_b : Hid ((ga + 1) ≠ gb) := Lib.hid (by omega)
  have Nx_y : Hid ((ga + 1) ≠ gb + 1) := Lib.hid (by omega)
  have No_b : Hid (go ≠ gb) := Lib.hid (by omega)
  have No_y : Hid (go ≠ gb + 1) := Lib.hid (by omega)
  clear hW hg kn km ba hgb nt_b ni_b na_b nx_b no_b
  go_upto_region 16 with fail
  rw [HWa.out]
  try rw [HGa.out]
  clear HWa HGa
  obtain ⟨qt_0, qt_1, qt_2, qt_3, qt_4, qt_5, qt_6, qt_7, qt_8, qt_9, qt_10⟩ := Kt.out.c11
  have lt := Kt.out.lt
  obtain ⟨qb_0, qb_1, qb_2, qb_3, qb_4, qb_5, qb_6, qb_7, qb_8, qb_9, qb_10⟩ := Kb.out.c11
  have lb := Kb.out.lt
  obtain ⟨fb_0, fb_1, fb_2, fb_3, fb_4, fb_5, fb_6, fb_7, fb_8, fb_9, fb_10⟩ := Kb.out.f11
  have x0 : Bk _ gb 24 #[.int .i64 a0, .int .i64 tn2, .int .i64 a2, .int .i64 a3, .int .i64 a4, .int .i64 a5, .int .i64 a6, .int .i64 a7, .int .i64 a8, .int .i64 a9, .int .i64 a10] := Kb.out.set_ 0 (.int .i64 a0)
  have x_t := Kt.out.far (p := ⟨gb, 0, none⟩) Nt_b.out (.int .i64 a0)
  have x_i := Ki.out.far (p := ⟨gb, 0, none⟩) Ni_b.out (.int .i64 a0)
  have x_a := Ka.out.far (p := ⟨gb, 0, none⟩) Na_b.out (.int .i64 a0)
  have x_x := Kx.out.far (p := ⟨gb, 0, none⟩) Nx_b.out (.int .i64 a0)
  have x_o := Ko.out.far (p := ⟨gb, 0, none⟩) No_b.out (.int .i64 a0)
  have x_y := Ky.out.far (p := ⟨gb, 0, none⟩) Nb_y.out.symm (.int .i64 a0)
  have xb := BB.out.setCell (p := ⟨gb, 0, none⟩) HBb.out (.int .i64 a0)
  obtain ⟨X11, hX⟩ : ∃ X, World.setCell V10 ⟨gb, 0, none⟩ (.int .i64 a0) = X := ⟨_, rfl⟩
  rw [hX] at x0 xb x_t x_i x_a x_x x_o x_y
  have HX := Lib.hid hX
  replace Kb := Lib.hid x0
  replace BB := Lib.hid xb
  replace Kt := Lib.hid x_t
  replace Ki := Lib.hid x_i
  replace Ka := Lib.hid x_a
  replace Kx := Lib.hid x_x
  replace Ko := Lib.hid x_o
  replace Ky := Lib.hid x_y
  clear hX x0 xb x_t x_i x_a x_x x_o x_y
  go_upto_region 19 with fail
  rw [HX.out]
  clear HX
  clear qt_0 qt_1 qt_2 qt_3 qt_4 qt_5 qt_6 qt_7 qt_8 qt_9 qt_10 lt qb_0 qb_1 qb_2 qb_3 qb_4 qb_5 qb_6 qb_7 qb_8 qb_9 qb_10 lb fb_0 fb_1 fb_2 fb_3 fb_4 fb_5 fb_6 fb_7 fb_8 fb_9 fb_10
  obtain ⟨qt_0, qt_1, qt_2, qt_3, qt_4, qt_5, qt_6, qt_7, qt_8, qt_9, qt_10⟩ := Kt.out.c11
  have lt := Kt.out.lt
  obtain ⟨qb_0, qb_1, qb_2, qb_3, qb_4, qb_5, qb_6, qb_7, qb_8, qb_9, qb_10⟩ := Kb.out.c11
  have lb := Kb.out.lt
  obtain ⟨fb_0, fb_1, fb_2, fb_3, fb_4, fb_5, fb_6, fb_7, fb_8, fb_9, fb_10⟩ := Kb.out.f11
  have x0 : Bk _ gb 24 #[.int .i64 a0, .int .i64 a1, .int .i64 a2, .int .i64 a3, .int .i64 a4, .int .i64 a5, .int .i64 a6, .int .i64 a7, .int .i64 a8, .int .i64 a9, .int .i64 a10] := Kb.out.set_ 1 (.int .i64 a1)
  have x_t := Kt.out.far (p := ⟨gb, 1, none⟩) Nt_b.out (.int .i64 a1)
  have x_i := Ki.out.far (p := ⟨gb, 1, none⟩) Ni_b.out (.int .i64 a1)
  have x_a := Ka.out.far (p := ⟨gb, 1, none⟩) Na_b.out (.int .i64 a1)
  have x_x := Kx.out.far (p := ⟨gb, 1, none⟩) Nx_b.out (.int .i64 a1)
  have x_o := Ko.out.far (p := ⟨gb, 1, none⟩) No_b.out (.int .i64 a1)
  have x_y := Ky.out.far (p := ⟨gb, 1, none⟩) Nb_y.out.symm (.int .i64 a1)
  have xb := BB.out.setCell (p := ⟨gb, 1, none⟩) HBb.out (.int .i64 a1)
  obtain ⟨X12, hX⟩ : ∃ X, World.setCell X11 ⟨gb, 1, none⟩ (.int .i64 a1) = X := ⟨_, rfl⟩
  rw [hX] at x0 xb x_t x_i x_a x_x x_o x_y
  have HX := Lib.hid hX
  replace Kb := Lib.hid x0
  replace BB := Lib.hid xb
  replace Kt := Lib.hid x_t
  replace Ki := Lib.hid x_i
  replace Ka := Lib.hid x_a
  replace Kx := Lib.hid x_x
  replace Ko := Lib.hid x_o
  replace Ky := Lib.hid x_y
  clear hX x0 xb x_t x_i x_a x_x x_o x_y
  go_upto_region 20 with fail
  rw [HX.out]
  clear HX
  clear qt_0 qt_1 qt_2 qt_3 qt_4 qt_5 qt_6 qt_7 qt_8 qt_9 qt_10 lt qb_0 qb_1 qb_2 qb_3 qb_4 qb_5 qb_6 qb_7 qb_8 qb_9 qb_10 lb fb_0 fb_1 fb_2 fb_3 fb_4 fb_5 fb_6 fb_7 fb_8 fb_9 fb_10
  obtain ⟨qa_0, qa_1, qa_2, qa_3, qa_4, qa_5, qa_6, qa_7, qa_8, qa_9, qa_10⟩ := Ka.out.c11
  have la := Ka.out.lt
  obtain ⟨qb_0, qb_1, qb_2, qb_3, qb_4, qb_5, qb_6, qb_7, qb_8, qb_9, qb_10⟩ := Kb.out.c11
  have lb := Kb.out.lt
  obtain ⟨qx_0, qx_1, qx_2⟩ := Kx.out.c3
  have lx := Kx.out.lt
  obtain ⟨qy_0, qy_1, qy_2⟩ := Ky.out.c3
  have ly := Ky.out.lt
  have E1 := HE1.out
  go_wp2
  go_ret
  exact ⟨rfl, BB.out⟩

set_option maxRecDepth 100000 in
set_option maxHeartbeats 8000000 in
theorem lnext_4 (t : Tk) (A : Option Addr) (n c : Nat) (p : List I3) (i2 tn2 : Int) (w : World) (hp : Prog w A n c p) (hF : Fol w) (hb : ¬ 200 < n) (hf : (doR t p).2.2 = 0) (hg : (doR { t with id := i2, tn := tn2 } p).2.2 = 0) (hio : (atI p t.pc).1 ≠ 1) : Calls Tryd.prog 7 #[.agg (tc t), .slice A n c, .int .i64 i2, .int .i64 tn2] w (TrueAns w) := by
  have HP := Lib.hid hp
  have HN := Lib.hid hp.1
  have hn := Nat.le_trans hp.2.1.1 hp.2.1.2
  have HF := Lib.hid hF
  clear hp hF
  have hid : (doR t p).1.id = t.id ∧ (doR t p).1.tn = t.tn := by obtain ⟨_, q2, q3⟩ := do_ok hf; rw [q3]; exact unit_ids q2
  obtain ⟨hn1, hx1, hx2, hg1, hg2⟩ := next_do (t := t) (p := p) hf i2 tn2
  have CN := Lib.hid (fun (W : World) (h : Below w.heap.size w W) => hn1 ▸ next_any t A n c p W (HP.out.below h))
  have CD := Lib.hid (fun (W : World) (h : Below w.heap.size w W) => do_any t A n c p W (HP.out.below h))
  have CE := Lib.hid (fun (W : World) (h : Below w.heap.size w W) => do_any { t with id := i2, tn := tn2 } A n c p W (HP.out.below h))
  have CC := Lib.hid (fun (W : World) => chk_any { t with id := i2, tn := tn2 } W)
  rw [hg2 hg] at CE
  clear hg1 hg2 hg
  have hf0 := hf
  generalize doR t p = dd at *
  generalize atI p t.pc = nn at *
  obtain ⟨io, ia, ib⟩ := nn
  obtain ⟨⟨a0, a1, a2, a3, a4, a5, a6, a7, a8, a9, a10⟩, ⟨xo, xa, xb⟩, f⟩ := dd
  obtain ⟨id, tn, pg, pc, un, k0, k1, k2, k3, st, rn⟩ := t
  unfold tc vI at CN CD CE
  unfold tc at CC
  unfold tc
  dsimp only at *
  subst hf
  clear hf0
  obtain ⟨rfl, rfl⟩ := hid
  have hx := hx2 hio
  injection hx with e0 e1
  injection e1 with e1 e2
  subst e0 e1 e2
  have hi1 : (xo == 1) = false := by simpa using hio
  have hi2 : (xo != 1) = true := by simpa using hio
  clear hx1 hx2 hio
  have hb2 : ¬ (200 : Int) < n := by omega
  have E1 := eql_task ⟨a0, a1, a2, a3, a4, a5, a6, a7, a8, a9, a10⟩
  unfold tc at E1
  dsimp only at E1
  have HE1 := Lib.hid E1
  clear E1 hn1
  obtain ⟨kb0, hb0⟩ := lies1 w #[.int .i64 a0, .int .i64 a1, .int .i64 pg, .int .i64 pc, .int .i64 un, .int .i64 k0, .int .i64 k1, .int .i64 k2, .int .i64 k3, .int .i64 st, .int .i64 rn] 24
  obtain ⟨V, hV⟩ : ∃ V, w.alloc (.cells #[.int .i64 a0, .int .i64 a1, .int .i64 pg, .int .i64 pc, .int .i64 un, .int .i64 k0, .int .i64 k1, .int .i64 k2, .int .i64 k3, .int .i64 st, .int .i64 rn] 24) = V := ⟨_, rfl⟩
  rw [hV] at hb0 kb0
  have HV := Lib.hid hV
  have BB := Lib.hid hb0
  have Kt := Lib.hid kb0
  have HBt : Hid (w.heap.size ≤ w.heap.size) := Lib.hid (by omega)
  clear hV hb0 kb0
  go_enter Tryd.func7, Tryd.ntmps7
  go_upto_region 1 with fail
  rw [HV.out]
  clear HV
  go_wp2_with fail
  refine (live_any _ (HF.out.le BB.out)).mono ?_
  rintro e U1 ⟨rfl, bU1⟩
  replace BB := Lib.hid (below3 BB.out bU1)
  replace Kt := Lib.hid (Kt.out.below bU1 Kt.out.lt)
  clear bU1
  obtain ⟨qt_0, qt_1, qt_2, qt_3, qt_4, qt_5, qt_6, qt_7, qt_8, qt_9, qt_10⟩ := Kt.out.c11
  have lt := Kt.out.lt
  go_wp2_with fail
  refine (CN.out _ BB.out).mono ?_
  rintro e U2 ⟨rfl, bU2⟩
  clear qt_0 qt_1 qt_2 qt_3 qt_4 qt_5 qt_6 qt_7 qt_8 qt_9 qt_10 lt
  replace BB := Lib.hid (below3 BB.out bU2)
  replace Kt := Lib.hid (Kt.out.below bU2 Kt.out.lt)
  clear bU2
  have kn := Bk.new U2 37 #[.int .i64 xo, .int .i64 xa, .int .i64 xb]
  have ba := (Below.refl U2.heap.size U2).alloc (Nat.le_refl _) (.cells #[.int .i64 xo, .int .i64 xa, .int .i64 xb] 37)
  have hgb := BB.out.size
  have nt_i := Nat.ne_of_lt Kt.out.lt
  replace BB := Lib.hid (below3 BB.out ba)
  replace Kt := Lib.hid (Kt.out.below ba Kt.out.lt)
  obtain ⟨gi, hg⟩ : ∃ g, U2.heap.size = g := ⟨_, rfl⟩
  obtain ⟨V3, hW⟩ : ∃ W, U2.alloc (.cells #[.int .i64 xo, .int .i64 xa, .int .i64 xb] 37) = W := ⟨_, rfl⟩
  have Ki := Lib.hid kn
  rw [hW] at BB Ki Kt
  rw [hg] at Ki hgb nt_i
  have HGi := Lib.hid hg
  have HWi := Lib.hid hW
  have HBi := Lib.hid hgb
  have Nt_i := Lib.hid nt_i
  clear hW hg kn ba hgb nt_i
  go_upto_region 7 with fail
  rw [HWi.out]
  try rw [HGi.out]
  clear HWi HGi
  obtain ⟨qt_0, qt_1, qt_2, qt_3, qt_4, qt_5, qt_6, qt_7, qt_8, qt_9, qt_10⟩ := Kt.out.c11
  have lt := Kt.out.lt
  go_wp2_with fail
  refine (CD.out _ BB.out).mono ?_
  rintro e U4 ⟨rfl, bU4⟩
  clear qt_0 qt_1 qt_2 qt_3 qt_4 qt_5 qt_6 qt_7 qt_8 qt_9 qt_10 lt
  replace BB := Lib.hid (below3 BB.out bU4)
  replace Kt := Lib.hid (Kt.out.below bU4 Kt.out.lt)
  replace Ki := Lib.hid (Ki.out.below bU4 Ki.out.lt)
  clear bU4
  obtain ⟨kn, km, ba⟩ := lies2 U4 #[.int .i64 a0, .int .i64 a1, .int .i64 a2, .int .i64 a3, .int .i64 a4, .int .i64 a5, .int .i64 a6, .int .i64 a7, .int .i64 a8, .int .i64 a9, .int .i64 a10] #[.int .i64 xo, .int .i64 xa, .int .i64 xb] 24 28
  have hgb := BB.out.size
  have nt_a := Kt.out.lt
  have ni_a := Ki.out.lt
  replace BB := Lib.hid (below3 BB.out ba)
  replace Kt := Lib.hid (Kt.out.below ba Kt.out.lt)
  replace Ki := Lib.hid (Ki.out.below ba Ki.out.lt)
  obtain ⟨ga, hg⟩ : ∃ g, U4.heap.size = g := ⟨_, rfl⟩
  obtain ⟨V5, hW⟩ : ∃ W, (U4.alloc (.cells #[.int .i64 a0, .int .i64 a1, .int .i64 a2, .int .i64 a3, .int .i64 a4, .int .i64 a5, .int .i64 a6, .int .i64 a7, .int .i64 a8, .int .i64 a9, .int .i64 a10] 24)).alloc (.cells #[.int .i64 xo, .int .i64 xa, .int .i64 xb] 28) = W := ⟨_, rfl⟩
  rw [hW] at BB kn km Kt Ki
  rw [hg] at kn km hgb nt_a ni_a
  have Ka := Lib.hid kn
  have Kx := Lib.hid km
  have HGa := Lib.hid hg
  have HWa := Lib.hid hW
  have HBa := Lib.hid hgb
  have HBx : Hid (w.heap.size ≤ ga + 1) := Lib.hid (by omega)
  have Na_x : Hid (ga ≠ ga + 1) := Lib.hid (by omega)
  have Nt_a : Hid (w.heap.size ≠ ga) := Lib.hid (by omega)
  have Nt_x : Hid (w.heap.size ≠ ga + 1) := Lib.hid (by omega)
  have Ni_a : Hid (gi ≠ ga) := Lib.hid (by omega)
  have Ni_x : Hid (gi ≠ ga + 1) := Lib.hid (by omega)
  clear hW hg kn km ba hgb nt_a ni_a
  go_upto_region 8 with fail
  rw [HWa.out]
  try rw [HGa.out]
  clear HWa HGa
  obtain ⟨qi_0, qi_1, qi_2⟩ := Ki.out.c3
  have li := Ki.out.lt
  obtain ⟨qx_0, qx_1, qx_2⟩ := Kx.out.c3
  have lx := Kx.out.lt
  obtain ⟨qt_0, qt_1, qt_2, qt_3, qt_4, qt_5, qt_6, qt_7, qt_8, qt_9, qt_10⟩ := Kt.out.c11
  have lt := Kt.out.lt
  skip
  have kn := Bk.new V5 24 #[.int .i64 a0, .int .i64 a1, .int .i64 pg, .int .i64 pc, .int .i64 un, .int .i64 k0, .int .i64 k1, .int .i64 k2, .int .i64 k3, .int .i64 st, .int .i64 rn]
  have ba := (Below.refl V5.heap.size V5).alloc (Nat.le_refl _) (.cells #[.int .i64 a0, .int .i64 a1, .int .i64 pg, .int .i64 pc, .int .i64 un, .int .i64 k0, .int .i64 k1, .int .i64 k2, .int .i64 k3, .int .i64 st, .int .i64 rn] 24)
  have hgb := BB.out.size
  have nt_o := Nat.ne_of_lt Kt.out.lt
  have ni_o := Nat.ne_of_lt Ki.out.lt
  have na_o := Nat.ne_of_lt Ka.out.lt
  have nx_o := Nat.ne_of_lt Kx.out.lt
  replace BB := Lib.hid (below3 BB.out ba)
  replace Kt := Lib.hid (Kt.out.below ba Kt.out.lt)
  replace Ki := Lib.hid (Ki.out.below ba Ki.out.lt)
  replace Ka := Lib.hid (Ka.out.below ba Ka.out.lt)
  replace Kx := Lib.hid (Kx.out.below ba Kx.out.lt)
  obtain ⟨go, hg⟩ : ∃ g, V5.heap.size = g := ⟨_, rfl⟩
  obtain ⟨V6, hW⟩ : ∃ W, V5.alloc (.cells #[.int .i64 a0, .int .i64 a1, .int .i64 pg, .int .i64 pc, .int .i64 un, .int .i64 k0, .int .i64 k1, .int .i64 k2, .int .i64 k3, .int .i64 st, .int .i64 rn] 24) = W := ⟨_, rfl⟩
  have Ko := Lib.hid kn
  rw [hW] at BB Ko Kt Ki Ka Kx
  rw [hg] at Ko hgb nt_o ni_o na_o nx_o
  have HGo := Lib.hid hg
  have HWo := Lib.hid hW
  have HBo := Lib.hid hgb
  have Nt_o := Lib.hid nt_o
  have Ni_o := Lib.hid ni_o
  have Na_o := Lib.hid na_o
  have Nx_o := Lib.hid nx_o
  clear hW hg kn ba hgb nt_o ni_o na_o nx_o
  go_upto_region 13 with fail
  rw [HWo.out]
  try rw [HGo.out]
  clear HWo HGo
  clear qi_0 qi_1 qi_2 li qx_0 qx_1 qx_2 lx qt_0 qt_1 qt_2 qt_3 qt_4 qt_5 qt_6 qt_7 qt_8 qt_9 qt_10 lt
  obtain ⟨qo_0, qo_1, qo_2, qo_3, qo_4, qo_5, qo_6, qo_7, qo_8, qo_9, qo_10⟩ := Ko.out.c11
  have lo := Ko.out.lt
  obtain ⟨fo_0, fo_1, fo_2, fo_3, fo_4, fo_5, fo_6, fo_7, fo_8, fo_9, fo_10⟩ := Ko.out.f11
  have x0 : Bk _ go 24 #[.int .i64 i2, .int .i64 a1, .int .i64 pg, .int .i64 pc, .int .i64 un, .int .i64 k0, .int .i64 k1, .int .i64 k2, .int .i64 k3, .int .i64 st, .int .i64 rn] := Ko.out.set_ 0 (.int .i64 i2)
  have x_t := Kt.out.far (p := ⟨go, 0, none⟩) Nt_o.out (.int .i64 i2)
  have x_i := Ki.out.far (p := ⟨go, 0, none⟩) Ni_o.out (.int .i64 i2)
  have x_a := Ka.out.far (p := ⟨go, 0, none⟩) Na_o.out (.int .i64 i2)
  have x_x := Kx.out.far (p := ⟨go, 0, none⟩) Nx_o.out (.int .i64 i2)
  have xb := BB.out.setCell (p := ⟨go, 0, none⟩) HBo.out (.int .i64 i2)
  obtain ⟨X7, hX⟩ : ∃ X, World.setCell V6 ⟨go, 0, none⟩ (.int .i64 i2) = X := ⟨_, rfl⟩
  rw [hX] at x0 xb x_t x_i x_a x_x
  have HX := Lib.hid hX
  replace Ko := Lib.hid x0
  replace BB := Lib.hid xb
  replace Kt := Lib.hid x_t
  replace Ki := Lib.hid x_i
  replace Ka := Lib.hid x_a
  replace Kx := Lib.hid x_x
  clear hX x0 xb x_t x_i x_a x_x
  go_upto_region 14 with fail
  rw [HX.out]
  clear HX
  clear qo_0 qo_1 qo_2 qo_3 qo_4 qo_5 qo_6 qo_7 qo_8 qo_9 qo_10 lo fo_0 fo_1 fo_2 fo_3 fo_4 fo_5 fo_6 fo_7 fo_8 fo_9 fo_10
  obtain ⟨qo_0, qo_1, qo_2, qo_3, qo_4, qo_5, qo_6, qo_7, qo_8, qo_9, qo_10⟩ := Ko.out.c11
  have lo := Ko.out.lt
  obtain ⟨fo_0, fo_1, fo_2, fo_3, fo_4, fo_5, fo_6, fo_7, fo_8, fo_9, fo_10⟩ := Ko.out.f11
  have x0 : Bk _ go 24 #[.int .i64 i2, .int .i64 tn2, .int .i64 pg, .int .i64 pc, .int .i64 un, .int .i64 k0, .int .i64 k1, .int .i64 k2, .int .i64 k3, .int .i64 st, .int .i64 rn] := Ko.out.set_ 1 (.int .i64 tn2)
  have x_t := Kt.out.far (p := ⟨go, 1, none⟩) Nt_o.out (.int .i64 tn2)
  have x_i := Ki.out.far (p := ⟨go, 1, none⟩) Ni_o.out (.int .i64 tn2)
  have x_a := Ka.out.far (p := ⟨go, 1, none⟩) Na_o.out (.int .i64 tn2)
  have x_x := Kx.out.far (p := ⟨go, 1, none⟩) Nx_o.out (.int .i64 tn2)
  have xb := BB.out.setCell (p := ⟨go, 1, none⟩) HBo.out (.int .i64 tn2)
  obtain ⟨X8, hX⟩ : ∃ X, World.setCell X7 ⟨go, 1, none⟩ (.int .i64 tn2) = X := ⟨_, rfl⟩
  rw [hX] at x0 xb x_t x_i x_a x_x
  have HX := Lib.hid hX
  replace Ko := Lib.hid x0
  replace BB := Lib.hid xb
  replace Kt := Lib.hid x_t
  replace Ki := Lib.hid x_i
  replace Ka := Lib.hid x_a
  replace Kx := Lib.hid x_x
  clear hX x0 xb x_t x_i x_a x_x
  go_upto_region 15 with fail
  rw [HX.out]
  clear HX
  clear qo_0 qo_1 qo_2 qo_3 qo_4 qo_5 qo_6 qo_7 qo_8 qo_9 qo_10 lo fo_0 fo_1 fo_2 fo_3 fo_4 fo_5 fo_6 fo_7 fo_8 fo_9 fo_10
  obtain ⟨qo_0, qo_1, qo_2, qo_3, qo_4, qo_5, qo_6, qo_7, qo_8, qo_9, qo_10⟩ := Ko.out.c11
  have lo := Ko.out.lt
  go_wp2_with fail
  refine (CE.out _ BB.out).mono ?_
  rintro e U9 ⟨rfl, bU9⟩
  clear qo_0 qo_1 qo_2 qo_3 qo_4 qo_5 qo_6 qo_7 qo_8 qo_9 qo_10 lo
  replace BB := Lib.hid (below3 BB.out bU9)
  replace Kt := Lib.hid (Kt.out.below bU9 Kt.out.lt)
  replace Ki := Lib.hid (Ki.out.below bU9 Ki.out.lt)
  replace Ka := Lib.hid (Ka.out.below bU9 Ka.out.lt)
  replace Kx := Lib.hid (Kx.out.below bU9 Kx.out.lt)
  replace Ko := Lib.hid (Ko.out.below bU9 Ko.out.lt)
  clear bU9
  obtain ⟨kn, km, ba⟩ := lies2 U9 #[.int .i64 i2, .int .i64 tn2, .int .i64 a2, .int .i64 a3, .int .i64 a4, .int .i64 a5, .int .i64 a6, .int .i64 a7, .int .i64 a8, .int .i64 a9, .int .i64 a10] #[.int .i64 xo, .int .i64 xa, .int .i64 xb] 24 28
  have hgb := BB.out.size
  have nt_b := Kt.out.lt
  have ni_b := Ki.out.lt
  have na_b := Ka.out.lt
  have nx_b := Kx.out.lt
  have no_b := Ko.out.lt
  replace BB := Lib.hid (below3 BB.out ba)
  replace Kt := Lib.hid (Kt.out.below ba Kt.out.lt)
  replace Ki := Lib.hid (Ki.out.below ba Ki.out.lt)
  replace Ka := Lib.hid (Ka.out.below ba Ka.out.lt)
  replace Kx := Lib.hid (Kx.out.below ba Kx.out.lt)
  replace Ko := Lib.hid (Ko.out.below ba Ko.out.lt)
  obtain ⟨gb, hg⟩ : ∃ g, U9.heap.size = g := ⟨_, rfl⟩
  obtain ⟨V10, hW⟩ : ∃ W, (U9.alloc (.cells #[.int .i64 i2, .int .i64 tn2, .int .i64 a2, .int .i64 a3, .int .i64 a4, .int .i64 a5, .int .i64 a6, .int .i64 a7, .int .i64 a8, .int .i64 a9, .int .i64 a10] 24)).alloc (.cells #[.int .i64 xo, .int .i64 xa, .int .i64 xb] 28) = W := ⟨_, rfl⟩
  rw [hW] at BB kn km Kt Ki Ka Kx Ko
  rw [hg] at kn km hgb nt_b ni_b na_b nx_b no_b
  have Kb := Lib.hid kn
  have Ky := Lib.hid km
  have HGa := Lib.hid hg
  have HWa := Lib.hid hW
  have HBb := Lib.hid hgb
  have HBy : Hid (w.heap.size ≤ gb + 1) := Lib.hid (by omega)
  have Nb_y : Hid (gb ≠ gb + 1) := Lib.hid (by omega)
  have Nt_b : Hid (w.heap.size ≠ gb) := Lib.hid (by omega)
  have Nt_y : Hid (w.heap.size ≠ gb + 1) := Lib.hid (by omega)
  have Ni_b : Hid (gi ≠ gb) := Lib.hid (by omega)
  have Ni_y : Hid (gi ≠ gb + 1) := Lib.hid (by omega)
  have Na_b : Hid (ga ≠ gb) := Lib.hid (by omega)
  have Na_y : Hid (ga ≠ gb + 1) := Lib.hid (by omega)
  have Nx_b : Hid ((ga + 1) ≠ gb) := Lib.hid (by omega)
  have Nx_y : Hid ((ga + 1) ≠ gb + 1) := Lib.hid (by omega)
  have No_b : Hid (go ≠ gb) := Lib.hid (by omega)
  have No_y : Hid (go ≠ gb + 1) := Lib.hid (by omega)
  clear hW hg kn km ba hgb nt_b ni_b na_b nx_b no_b
  go_upto_region 16 with fail
  rw [HWa.out]
  try rw [HGa.out]
  clear HWa HGa
  obtain ⟨qt_0, qt_1, qt_2, qt_3, qt_4, qt_5, qt_6, qt_7, qt_8, qt_9, qt_10⟩ := Kt.out.c11
  have lt := Kt.out.lt
  obtain ⟨qb_0, qb_1, qb_2, qb_3, qb_4, qb_5, qb_6, qb_7, qb_8, qb_9, qb_10⟩ := Kb.out.c11
  have lb := Kb.out.lt
  obtain ⟨fb_0, fb_1, fb_2, fb_3, fb_4, fb_5, fb_6, fb_7, fb_8, fb_9, fb_10⟩ := Kb.out.f11
  have x0 : Bk _ gb 24 #[.int .i64 a0, .int .i64 tn2, .int .i64 a2, .int .i64 a3, .int .i64 a4, .int .i64 a5, .int .i64 a6, .int .i64 a7, .int .i64 a8, .int .i64 a9, .int .i64 a10] := Kb.out.set_ 0 (.int .i64 a0)
  have x_t := Kt.out.far (p := ⟨gb, 0, none⟩) Nt_b.out (.int .i64 a0)
  have x_i := Ki.out.far (p := ⟨gb, 0, none⟩) Ni_b.out (.int .i64 a0)
  have x_a := Ka.out.far (p := ⟨gb, 0, none⟩) Na_b.out (.int .i64 a0)
  have x_x := Kx.out.far (p := ⟨gb, 0, none⟩) Nx_b.out (.int .i64 a0)
  have x_o := Ko.out.far (p := ⟨gb, 0, none⟩) No_b.out (.int .i64 a0)
  have x_y := Ky.out.far (p := ⟨gb, 0, none⟩) Nb_y.out.symm (.int .i64 a0)
  have xb := BB.out.setCell (p := ⟨gb, 0, none⟩) HBb.out (.int .i64 a0)
  obtain ⟨X11, hX⟩ : ∃ X, World.setCell V10 ⟨gb, 0, none⟩ (.int .i64 a0) = X := ⟨_, rfl⟩
  rw [hX] at x0 xb x_t x_i x_a x_x x_o x_y
  have HX := Lib.hid hX
  replace Kb := Lib.hid x0
  replace BB := Lib.hid xb
  replace Kt := Lib.hid x_t
  replace Ki := Lib.hid x_i
  replace Ka := Lib.hid x_a
  replace Kx := Lib.hid x_x
  replace Ko := Lib.hid x_o
  replace Ky := Lib.hid x_y
  clear hX x0 xb x_t x_i x_a x_x x_o x_y
  go_upto_region 19 with fail
  rw [HX.out]
  clear HX
  clear qt_0 qt_1 qt_2 qt_3 qt_4 qt_5 qt_6 qt_7 qt_8 qt_9 qt_10 lt qb_0 qb_1 qb_2 qb_3 qb_4 qb_5 qb_6 qb_7 qb_8 qb_9 qb_10 lb fb_0 fb_1 fb_2 fb_3 fb_4 fb_5 fb_6 fb_7 fb_8 fb_9 fb_10
  obtain ⟨qt_0, qt_1, qt_2, qt_3, qt_4, qt_5, qt_6, qt_7, qt_8, qt_9, qt_10⟩ := Kt.out.c11
  have lt := Kt.out.lt
  obtain ⟨qb_0, qb_1, qb_2, qb_3, qb_4, qb_5, qb_6, qb_7, qb_8, qb_9, qb_10⟩ := Kb.out.c11
  have lb := Kb.out.lt
  obtain ⟨fb_0, fb_1, fb_2, fb_3, fb_4, fb_5, fb_6, fb_7, fb_8, fb_9, fb_10⟩ := Kb.out.f11
  have x0 : Bk _ gb 24 #[.int .i64 a0, .int .i64 a1, .int .i64 a2, .int .i64 a3, .int .i64 a4, .int .i64 a5, .int .i64 a6, .int .i64 a7, .int .i64 a8, .int .i64 a9, .int .i64 a10] := Kb.out.set_ 1 (.int .i64 a1)
  have x_t := Kt.out.far (p := ⟨gb, 1, none⟩) Nt_b.out (.int .i64 a1)
  have x_i := Ki.out.far (p := ⟨gb, 1, none⟩) Ni_b.out (.int .i64 a1)
  have x_a := Ka.out.far (p := ⟨gb, 1, none⟩) Na_b.out (.int .i64 a1)
  have x_x := Kx.out.far (p := ⟨gb, 1, none⟩) Nx_b.out (.int .i64 a1)
  have x_o := Ko.out.far (p := ⟨gb, 1, none⟩) No_b.out (.int .i64 a1)
  have x_y := Ky.out.far (p := ⟨gb, 1, none⟩) Nb_y.out.symm (.int .i64 a1)
  have xb := BB.out.setCell (p := ⟨gb, 1, none⟩) HBb.out (.int .i64 a1)
  obtain ⟨X12, hX⟩ : ∃ X, World.setCell X11 ⟨gb, 1, none⟩ (.int .i64 a1) = X := ⟨_, rfl⟩
  rw [hX] at x0 xb x_t x_i x_a x_x x_o x_y
  have HX := Lib.hid hX
  replace Kb := Lib.hid x0
  replace BB := Lib.hid xb
  replace Kt := Lib.hid x_t
  replace Ki := Lib.hid x_i
  replace Ka := Lib.hid x_a
  replace Kx := Lib.hid x_x
  replace Ko := Lib.hid x_o
  replace Ky := Lib.hid x_y
  clear hX x0 xb x_t x_i x_a x_x x_o x_y
  go_upto_region 20 with fail
  rw [HX.out]
  clear HX
  clear qt_0 qt_1 qt_2 qt_3 qt_4 qt_5 qt_6 qt_7 qt_8 qt_9 qt_10 lt qb_0 qb_1 qb_2 qb_3 qb_4 qb_5 qb_6 qb_7 qb_8 qb_9 qb_10 lb fb_0 fb_1 fb_2 fb_3 fb_4 fb_5 fb_6 fb_7 fb_8 fb_9 fb_10
  obtain ⟨qa_0, qa_1, qa_2, qa_3, qa_4, qa_5, qa_6, qa_7, qa_8, qa_9, qa_10⟩ := Ka.out.c11
  have la := Ka.out.lt
  obtain ⟨qb_0, qb_1, qb_2, qb_3, qb_4, qb_5, qb_6, qb_7, qb_8, qb_9, qb_10⟩ := Kb.out.c11
  have lb := Kb.out.lt
  obtain ⟨qx_0, qx_1, qx_2⟩ := Kx.out.c3
  have lx := Kx.out.lt
  obtain ⟨qy_0, qy_1, qy_2⟩ := Ky.out.c3
  have ly := Ky.out.lt
  have E1 := HE1.out
  go_wp2
  go_ret
  exact ⟨rfl, BB.out⟩

set_option maxRecDepth 100000 in
set_option maxHeartbeats 8000000 in
theorem lnext_5 (t : Tk) (A : Option Addr) (n c : Nat) (p : List I3) (i2 tn2 : Int) (w : World) (hp : Prog w A n c p) (hF : Fol w) (hb : ¬ 200 < n) (hf : (doR t p).2.2 = 0) (hg : (doR { t with id := i2, tn := tn2 } p).2.2 ≠ 0) (hio : (atI p t.pc).1 = 1) : Calls Tryd.prog 7 #[.agg (tc t), .slice A n c, .int .i64 i2, .int .i64 tn2] w (TrueAns w) := by
  have HP := Lib.hid hp
  have HN := Lib.hid hp.1
  have hn := Nat.le_trans hp.2.1.1 hp.2.1.2
  have HF := Lib.hid hF
  clear hp hF
  have hid : (doR t p).1.id = t.id ∧ (doR t p).1.tn = t.tn := by obtain ⟨_, q2, q3⟩ := do_ok hf; rw [q3]; exact unit_ids q2
  obtain ⟨hn1, hx1, hx2, hg1, hg2⟩ := next_do (t := t) (p := p) hf i2 tn2
  have CN := Lib.hid (fun (W : World) (h : Below w.heap.size w W) => hn1 ▸ next_any t A n c p W (HP.out.below h))
  have CD := Lib.hid (fun (W : World) (h : Below w.heap.size w W) => do_any t A n c p W (HP.out.below h))
  have CE := Lib.hid (fun (W : World) (h : Below w.heap.size w W) => do_any { t with id := i2, tn := tn2 } A n c p W (HP.out.below h))
  have CC := Lib.hid (fun (W : World) => chk_any { t with id := i2, tn := tn2 } W)
  have hch := hg1 hg
  rw [hch] at CC
  generalize doR { t with id := i2, tn := tn2 } p = ee at CE CC hg
  clear hg1 hg2 hch
  have hf0 := hf
  generalize doR t p = dd at *
  generalize atI p t.pc = nn at *
  obtain ⟨io, ia, ib⟩ := nn
  obtain ⟨⟨a0, a1, a2, a3, a4, a5, a6, a7, a8, a9, a10⟩, ⟨xo, xa, xb⟩, f⟩ := dd
  obtain ⟨⟨b0, b1, b2, b3, b4, b5, b6, b7, b8, b9, b10⟩, ⟨yo, ya, yb⟩, g⟩ := ee
  obtain ⟨id, tn, pg, pc, un, k0, k1, k2, k3, st, rn⟩ := t
  unfold tc vI at CN CD CE
  unfold tc at CC
  unfold tc
  dsimp only at *
  subst hf
  clear hf0
  obtain ⟨rfl, rfl⟩ := hid
  have hg2 : (g != 0) = true := by simpa using hg
  clear hg
  obtain rfl : io = 1 := hio
  have hx := hx1 rfl
  unfold zI at hx
  injection hx with e0 e1
  injection e1 with e1 e2
  subst e0 e1 e2
  clear hx1 hx2
  have hb2 : ¬ (200 : Int) < n := by omega
  have E1 := eql_task ⟨a0, a1, a2, a3, a4, a5, a6, a7, a8, a9, a10⟩
  unfold tc at E1
  dsimp only at E1
  have HE1 := Lib.hid E1
  clear E1 hn1
  obtain ⟨kb0, hb0⟩ := lies1 w #[.int .i64 a0, .int .i64 a1, .int .i64 pg, .int .i64 pc, .int .i64 un, .int .i64 k0, .int .i64 k1, .int .i64 k2, .int .i64 k3, .int .i64 st, .int .i64 rn] 24
  obtain ⟨V, hV⟩ : ∃ V, w.alloc (.cells #[.int .i64 a0, .int .i64 a1, .int .i64 pg, .int .i64 pc, .int .i64 un, .int .i64 k0, .int .i64 k1, .int .i64 k2, .int .i64 k3, .int .i64 st, .int .i64 rn] 24) = V := ⟨_, rfl⟩
  rw [hV] at hb0 kb0
  have HV := Lib.hid hV
  have BB := Lib.hid hb0
  have Kt := Lib.hid kb0
  have HBt : Hid (w.heap.size ≤ w.heap.size) := Lib.hid (by omega)
  clear hV hb0 kb0
  go_enter Tryd.func7, Tryd.ntmps7
  go_upto_region 1 with fail
  rw [HV.out]
  clear HV
  go_wp2_with fail
  refine (live_any _ (HF.out.le BB.out)).mono ?_
  rintro e U1 ⟨rfl, bU1⟩
  replace BB := Lib.hid (below3 BB.out bU1)
  replace Kt := Lib.hid (Kt.out.below bU1 Kt.out.lt)
  clear bU1
  obtain ⟨qt_0, qt_1, qt_2, qt_3, qt_4, qt_5, qt_6, qt_7, qt_8, qt_9, qt_10⟩ := Kt.out.c11
  have lt := Kt.out.lt
  go_wp2_with fail
  refine (CN.out _ BB.out).mono ?_
  rintro e U2 ⟨rfl, bU2⟩
  clear qt_0 qt_1 qt_2 qt_3 qt_4 qt_5 qt_6 qt_7 qt_8 qt_9 qt_10 lt
  replace BB := Lib.hid (below3 BB.out bU2)
  replace Kt := Lib.hid (Kt.out.below bU2 Kt.out.lt)
  clear bU2
  have kn := Bk.new U2 37 #[.int .i64 1, .int .i64 ia, .int .i64 ib]
  have ba := (Below.refl U2.heap.size U2).alloc (Nat.le_refl _) (.cells #[.int .i64 1, .int .i64 ia, .int .i64 ib] 37)
  have hgb := BB.out.size
  have nt_i := Nat.ne_of_lt Kt.out.lt
  replace BB := Lib.hid (below3 BB.out ba)
  replace Kt := Lib.hid (Kt.out.below ba Kt.out.lt)
  obtain ⟨gi, hg⟩ : ∃ g, U2.heap.size = g := ⟨_, rfl⟩
  obtain ⟨V3, hW⟩ : ∃ W, U2.alloc (.cells #[.int .i64 1, .int .i64 ia, .int .i64 ib] 37) = W := ⟨_, rfl⟩
  have Ki := Lib.hid kn
  rw [hW] at BB Ki Kt
  rw [hg] at Ki hgb nt_i
  have HGi := Lib.hid hg
  have HWi := Lib.hid hW
  have HBi := Lib.hid hgb
  have Nt_i := Lib.hid nt_i
  clear hW hg kn ba hgb nt_i
  go_upto_region 7 with fail
  rw [HWi.out]
  try rw [HGi.out]
  clear HWi HGi
  obtain ⟨qt_0, qt_1, qt_2, qt_3, qt_4, qt_5, qt_6, qt_7, qt_8, qt_9, qt_10⟩ := Kt.out.c11
  have lt := Kt.out.lt
  go_wp2_with fail
  refine (CD.out _ BB.out).mono ?_
  rintro e U4 ⟨rfl, bU4⟩
  clear qt_0 qt_1 qt_2 qt_3 qt_4 qt_5 qt_6 qt_7 qt_8 qt_9 qt_10 lt
  replace BB := Lib.hid (below3 BB.out bU4)
  replace Kt := Lib.hid (Kt.out.below bU4 Kt.out.lt)
  replace Ki := Lib.hid (Ki.out.below bU4 Ki.out.lt)
  clear bU4
  obtain ⟨kn, km, ba⟩ := lies2 U4 #[.int .i64 a0, .int .i64 a1, .int .i64 a2, .int .i64 a3, .int .i64 a4, .int .i64 a5, .int .i64 a6, .int .i64 a7, .int .i64 a8, .int .i64 a9, .int .i64 a10] #[.int .i64 0, .int .i64 0, .int .i64 0] 24 28
  have hgb := BB.out.size
  have nt_a := Kt.out.lt
  have ni_a := Ki.out.lt
  replace BB := Lib.hid (below3 BB.out ba)
  replace Kt := Lib.hid (Kt.out.below ba Kt.out.lt)
  replace Ki := Lib.hid (Ki.out.below ba Ki.out.lt)
  obtain ⟨ga, hg⟩ : ∃ g, U4.heap.size = g := ⟨_, rfl⟩
  obtain ⟨V5, hW⟩ : ∃ W, (U4.alloc (.cells #[.int .i64 a0, .int .i64 a1, .int .i64 a2, .int .i64 a3, .int .i64 a4, .int .i64 a5, .int .i64 a6, .int .i64 a7, .int .i64 a8, .int .i64 a9, .int .i64 a10] 24)).alloc (.cells #[.int .i64 0, .int .i64 0, .int .i64 0] 28) = W := ⟨_, rfl⟩
  rw [hW] at BB kn km Kt Ki
  rw [hg] at kn km hgb nt_a ni_a
  have Ka := Lib.hid kn
  have Kx := Lib.hid km
  have HGa := Lib.hid hg
  have HWa := Lib.hid hW
  have HBa := Lib.hid hgb
  have HBx : Hid (w.heap.size ≤ ga + 1) := Lib.hid (by omega)
  have Na_x : Hid (ga ≠ ga + 1) := Lib.hid (by omega)
  have Nt_a : Hid (w.heap.size ≠ ga) := Lib.hid (by omega)
  have Nt_x : Hid (w.heap.size ≠ ga + 1) := Lib.hid (by omega)
  have Ni_a : Hid (gi ≠ ga) := Lib.hid (by omega)
  have Ni_x : Hid (gi ≠ ga + 1) := Lib.hid (by omega)
  clear hW hg kn km ba hgb nt_a ni_a
  go_upto_region 8 with fail
  rw [HWa.out]
  try rw [HGa.out]
  clear HWa HGa
  obtain ⟨qi_0, qi_1, qi_2⟩ := Ki.out.c3
  have li := Ki.out.lt
  obtain ⟨qx_0, qx_1, qx_2⟩ := Kx.out.c3
  have lx := Kx.out.lt
  obtain ⟨qt_0, qt_1, qt_2, qt_3, qt_4, qt_5, qt_6, qt_7, qt_8, qt_9, qt_10⟩ := Kt.out.c11
  have lt := Kt.out.lt
  skip
  have kn := Bk.new V5 24 #[.int .i64 a0, .int .i64 a1, .int .i64 pg, .int .i64 pc, .int .i64 un, .int .i64 k0, .int .i64 k1, .int .i64 k2, .int .i64 k3, .int .i64 st, .int .i64 rn]
  have ba := (Below.refl V5.heap.size V5).alloc (Nat.le_refl _) (.cells #[.int .i64 a0, .int .i64 a1, .int .i64 pg, .int .i64 pc, .int .i64 un, .int .i64 k0, .int .i64 k1, .int .i64 k2, .int .i64 k3, .int .i64 st, .int .i64 rn] 24)
  have hgb := BB.out.size
  have nt_o := Nat.ne_of_lt Kt.out.lt
  have ni_o := Nat.ne_of_lt Ki.out.lt
  have na_o := Nat.ne_of_lt Ka.out.lt
  have nx_o := Nat.ne_of_lt Kx.out.lt
  replace BB := Lib.hid (below3 BB.out ba)
  replace Kt := Lib.hid (Kt.out.below ba Kt.out.lt)
  replace Ki := Lib.hid (Ki.out.below ba Ki.out.lt)
  replace Ka := Lib.hid (Ka.out.below ba Ka.out.lt)
  replace Kx := Lib.hid (Kx.out.below ba Kx.out.lt)
  obtain ⟨go, hg⟩ : ∃ g, V5.heap.size = g := ⟨_, rfl⟩
  obtain ⟨V6, hW⟩ : ∃ W, V5.alloc (.cells #[.int .i64 a0, .int .i64 a1, .int .i64 pg, .int .i64 pc, .int .i64 un, .int .i64 k0, .int .i64 k1, .int .i64 k2, .int .i64 k3, .int .i64 st, .int .i64 rn] 24) = W := ⟨_, rfl⟩
  have Ko := Lib.hid kn
  rw [hW] at BB Ko Kt Ki Ka Kx
  rw [hg] at Ko hgb nt_o ni_o na_o nx_o
  have HGo := Lib.hid hg
  have HWo := Lib.hid hW
  have HBo := Lib.hid hgb
  have Nt_o := Lib.hid nt_o
  have Ni_o := Lib.hid ni_o
  have Na_o := Lib.hid na_o
  have Nx_o := Lib.hid nx_o
  clear hW hg kn ba hgb nt_o ni_o na_o nx_o
  go_upto_region 13 with fail
  rw [HWo.out]
  try rw [HGo.out]
  clear HWo HGo
  clear qi_0 qi_1 qi_2 li qx_0 qx_1 qx_2 lx qt_0 qt_1 qt_2 qt_3 qt_4 qt_5 qt_6 qt_7 qt_8 qt_9 qt_10 lt
  obtain ⟨qo_0, qo_1, qo_2, qo_3, qo_4, qo_5, qo_6, qo_7, qo_8, qo_9, qo_10⟩ := Ko.out.c11
  have lo := Ko.out.lt
  obtain ⟨fo_0, fo_1, fo_2, fo_3, fo_4, fo_5, fo_6, fo_7, fo_8, fo_9, fo_10⟩ := Ko.out.f11
  have x0 : Bk _ go 24 #[.int .i64 i2, .int .i64 a1, .int .i64 pg, .int .i64 pc, .int .i64 un, .int .i64 k0, .int .i64 k1, .int .i64 k2, .int .i64 k3, .int .i64 st, .int .i64 rn] := Ko.out.set_ 0 (.int .i64 i2)
  have x_t := Kt.out.far (p := ⟨go, 0, none⟩) Nt_o.out (.int .i64 i2)
  have x_i := Ki.out.far (p := ⟨go, 0, none⟩) Ni_o.out (.int .i64 i2)
  have x_a := Ka.out.far (p := ⟨go, 0, none⟩) Na_o.out (.int .i64 i2)
  have x_x := Kx.out.far (p := ⟨go, 0, none⟩) Nx_o.out (.int .i64 i2)
  have xb := BB.out.setCell (p := ⟨go, 0, none⟩) HBo.out (.int .i64 i2)
  obtain ⟨X7, hX⟩ : ∃ X, World.setCell V6 ⟨go, 0, none⟩ (.int .i64 i2) = X := ⟨_, rfl⟩
  rw [hX] at x0 xb x_t x_i x_a x_x
  have HX := Lib.hid hX
  replace Ko := Lib.hid x0
  replace BB := Lib.hid xb
  replace Kt := Lib.hid x_t
  replace Ki := Lib.hid x_i
  replace Ka := Lib.hid x_a
  replace Kx := Lib.hid x_x
  clear hX x0 xb x_t x_i x_a x_x
  go_upto_region 14 with fail
  rw [HX.out]
  clear HX
  clear qo_0 qo_1 qo_2 qo_3 qo_4 qo_5 qo_6 qo_7 qo_8 qo_9 qo_10 lo fo_0 fo_1 fo_2 fo_3 fo_4 fo_5 fo_6 fo_7 fo_8 fo_9 fo_10
  obtain ⟨qo_0, qo_1, qo_2, qo_3, qo_4, qo_5, qo_6, qo_7, qo_8, qo_9, qo_10⟩ := Ko.out.c11
  have lo := Ko.out.lt
  obtain ⟨fo_0, fo_1, fo_2, fo_3, fo_4, fo_5, fo_6, fo_7, fo_8, fo_9, fo_10⟩ := Ko.out.f11
  have x0 : Bk _ go 24 #[.int .i64 i2, .int .i64 tn2, .int .i64 pg, .int .i64 pc, .int .i64 un, .int .i64 k0, .int .i64 k1, .int .i64 k2, .int .i64 k3, .int .i64 st, .int .i64 rn] := Ko.out.set_ 1 (.int .i64 tn2)
  have x_t := Kt.out.far (p := ⟨go, 1, none⟩) Nt_o.out (.int .i64 tn2)
  have x_i := Ki.out.far (p := ⟨go, 1, none⟩) Ni_o.out (.int .i64 tn2)
  have x_a := Ka.out.far (p := ⟨go, 1, none⟩) Na_o.out (.int .i64 tn2)
  have x_x := Kx.out.far (p := ⟨go, 1, none⟩) Nx_o.out (.int .i64 tn2)
  have xb := BB.out.setCell (p := ⟨go, 1, none⟩) HBo.out (.int .i64 tn2)
  obtain ⟨X8, hX⟩ : ∃ X, World.setCell X7 ⟨go, 1, none⟩ (.int .i64 tn2) = X := ⟨_, rfl⟩
  rw [hX] at x0 xb x_t x_i x_a x_x
  have HX := Lib.hid hX
  replace Ko := Lib.hid x0
  replace BB := Lib.hid xb
  replace Kt := Lib.hid x_t
  replace Ki := Lib.hid x_i
  replace Ka := Lib.hid x_a
  replace Kx := Lib.hid x_x
  clear hX x0 xb x_t x_i x_a x_x
  go_upto_region 15 with fail
  rw [HX.out]
  clear HX
  clear qo_0 qo_1 qo_2 qo_3 qo_4 qo_5 qo_6 qo_7 qo_8 qo_9 qo_10 lo fo_0 fo_1 fo_2 fo_3 fo_4 fo_5 fo_6 fo_7 fo_8 fo_9 fo_10
  obtain ⟨qo_0, qo_1, qo_2, qo_3, qo_4, qo_5, qo_6, qo_7, qo_8, qo_9, qo_10⟩ := Ko.out.c11
  have lo := Ko.out.lt
  go_wp2_with fail
  refine (CE.out _ BB.out).mono ?_
  rintro e U9 ⟨rfl, bU9⟩
  clear qo_0 qo_1 qo_2 qo_3 qo_4 qo_5 qo_6 qo_7 qo_8 qo_9 qo_10 lo
  replace BB := Lib.hid (below3 BB.out bU9)
  replace Kt := Lib.hid (Kt.out.below bU9 Kt.out.lt)
  replace Ki := Lib.hid (Ki.out.below bU9 Ki.out.lt)
  replace Ka := Lib.hid (Ka.out.below bU9 Ka.out.lt)
  replace Kx := Lib.hid (Kx.out.below bU9 Kx.out.lt)
  replace Ko := Lib.hid (Ko.out.below bU9 Ko.out.lt)
  clear bU9
  obtain ⟨kn, km, ba⟩ := lies2 U9 #[.int .i64 b0, .int .i64 b1, .int .i64 b2, .int .i64 b3, .int .i64 b4, .int .i64 b5, .int .i64 b6, .int .i64 b7, .int .i64 b8, .int .i64 b9, .int .i64 b10] #[.int .i64 yo, .int .i64 ya, .int .i64 yb] 24 28
  have hgb := BB.out.size
  have nt_b := Kt.out.lt
  have ni_b := Ki.out.lt
  have na_b := Ka.out.lt
  have nx_b := Kx.out.lt
  have no_b := Ko.out.lt
  replace BB := Lib.hid (below3 BB.out ba)
  replace Kt := Lib.hid (Kt.out.below ba Kt.out.lt)
  replace Ki := Lib.hid (Ki.out.below ba Ki.out.lt)
  replace Ka := Lib.hid (Ka.out.below ba Ka.out.lt)
  replace Kx := Lib.hid (Kx.out.below ba Kx.out.lt)
  replace Ko := Lib.hid (Ko.out.below ba Ko.out.lt)
  obtain ⟨gb, hg⟩ : ∃ g, U9.heap.size = g := ⟨_, rfl⟩
  obtain ⟨V10, hW⟩ : ∃ W, (U9.alloc (.cells #[.int .i64 b0, .int .i64 b1, .int .i64 b2, .int .i64 b3, .int .i64 b4, .int .i64 b5, .int .i64 b6, .int .i64 b7, .int .i64 b8, .int .i64 b9, .int .i64 b10] 24)).alloc (.cells #[.int .i64 yo, .int .i64 ya, .int .i64 yb] 28) = W := ⟨_, rfl⟩
  rw [hW] at BB kn km Kt Ki Ka Kx Ko
  rw [hg] at kn km hgb nt_b ni_b na_b nx_b no_b
  have Kb := Lib.hid kn
  have Ky := Lib.hid km
  have HGa := Lib.hid hg
  have HWa := Lib.hid hW
  have HBb := Lib.hid hgb
  have HBy : Hid (w.heap.size ≤ gb + 1) := Lib.hid (by omega)
  have Nb_y : Hid (gb ≠ gb + 1) := Lib.hid (by omega)
  have Nt_b : Hid (w.heap.size ≠ gb) := Lib.hid (by omega)
  have Nt_y : Hid (w.heap.size ≠ gb + 1) := Lib.hid (by omega)
  have Ni_b : Hid (gi ≠ gb) := Lib.hid (by omega)
  have Ni_y : Hid (gi ≠ gb + 1) := Lib.hid (by omega)
  have Na_b : Hid (ga ≠ gb) := Lib.hid (by omega)
  have Na_y : Hid (ga ≠ gb + 1) := Lib.hid (by omega)
  have Nx_b : Hid ((ga + 1) ≠ gb) := Lib.hid (by omega)
  have Nx_y : Hid ((ga + 1) ≠ gb + 1) := Lib.hid (by omega)
  have No_b : Hid (go ≠ gb) := Lib.hid (by omega)
  have No_y : Hid (go ≠ gb + 1) := Lib.hid (by omega)
  clear hW hg kn km ba hgb nt_b ni_b na_b nx_b no_b
  go_upto_region 16 with fail
  rw [HWa.out]
  try rw [HGa.out]
  clear HWa HGa
  obtain ⟨qo_0, qo_1, qo_2, qo_3, qo_4, qo_5, qo_6, qo_7, qo_8, qo_9, qo_10⟩ := Ko.out.c11
  have lo := Ko.out.lt
  go_wp2_with fail
  refine (CC.out _).mono ?_
  rintro e U11 ⟨rfl, bU11⟩
  clear qo_0 qo_1 qo_2 qo_3 qo_4 qo_5 qo_6 qo_7 qo_8 qo_9 qo_10 lo
  replace BB := Lib.hid (below3 BB.out bU11)
  replace Kt := Lib.hid (Kt.out.below bU11 Kt.out.lt)
  replace Ki := Lib.hid (Ki.out.below bU11 Ki.out.lt)
  replace Ka := Lib.hid (Ka.out.below bU11 Ka.out.lt)
  replace Kx := Lib.hid (Kx.out.below bU11 Kx.out.lt)
  replace Ko := Lib.hid (Ko.out.below bU11 Ko.out.lt)
  replace Kb := Lib.hid (Kb.out.below bU11 Kb.out.lt)
  replace Ky := Lib.hid (Ky.out.below bU11 Ky.out.lt)
  clear bU11
  go_wp2
  go_ret
  exact ⟨rfl, BB.out⟩

set_option maxRecDepth 100000 in
set_option maxHeartbeats 8000000 in
theorem lnext_6 (t : Tk) (A : Option Addr) (n c : Nat) (p : List I3) (i2 tn2 : Int) (w : World) (hp : Prog w A n c p) (hF : Fol w) (hb : ¬ 200 < n) (hf : (doR t p).2.2 = 0) (hg : (doR { t with id := i2, tn := tn2 } p).2.2 ≠ 0) (hio : (atI p t.pc).1 ≠ 1) : Calls Tryd.prog 7 #[.agg (tc t), .slice A n c, .int .i64 i2, .int .i64 tn2] w (TrueAns w) := by
  have HP := Lib.hid hp
  have HN := Lib.hid hp.1
  have hn := Nat.le_trans hp.2.1.1 hp.2.1.2
  have HF := Lib.hid hF
  clear hp hF
  have hid : (doR t p).1.id = t.id ∧ (doR t p).1.tn = t.tn := by obtain ⟨_, q2, q3⟩ := do_ok hf; rw [q3]; exact unit_ids q2
  obtain ⟨hn1, hx1, hx2, hg1, hg2⟩ := next_do (t := t) (p := p) hf i2 tn2
  have CN := Lib.hid (fun (W : World) (h : Below w.heap.size w W) => hn1 ▸ next_any t A n c p W (HP.out.below h))
  have CD := Lib.hid (fun (W : World) (h : Below w.heap.size w W) => do_any t A n c p W (HP.out.below h))
  have CE := Lib.hid (fun (W : World) (h : Below w.heap.size w W) => do_any { t with id := i2, tn := tn2 } A n c p W (HP.out.below h))
  have CC := Lib.hid (fun (W : World) => chk_any { t with id := i2, tn := tn2 } W)
  have hch := hg1 hg
  rw [hch] at CC
  generalize doR { t with id := i2, tn := tn2 } p = ee at CE CC hg
  clear hg1 hg2 hch
  have hf0 := hf
  generalize doR t p = dd at *
  generalize atI p t.pc = nn at *
  obtain ⟨io, ia, ib⟩ := nn
  obtain ⟨⟨a0, a1, a2, a3, a4, a5, a6, a7, a8, a9, a10⟩, ⟨xo, xa, xb⟩, f⟩ := dd
  obtain ⟨⟨b0, b1, b2, b3, b4, b5, b6, b7, b8, b9, b10⟩, ⟨yo, ya, yb⟩, g⟩ := ee
  obtain ⟨id, tn, pg, pc, un, k0, k1, k2, k3, st, rn⟩ := t
  unfold tc vI at CN CD CE
  unfold tc at CC
  unfold tc
  dsimp only at *
  subst hf
  clear hf0
  obtain ⟨rfl, rfl⟩ := hid
  have hg2 : (g != 0) = true := by simpa using hg
  clear hg
  have hx := hx2 hio
  injection hx with e0 e1
  injection e1 with e1 e2
  subst e0 e1 e2
  have hi1 : (xo == 1) = false := by simpa using hio
  have hi2 : (xo != 1) = true := by simpa using hio
  clear hx1 hx2 hio
  have hb2 : ¬ (200 : Int) < n := by omega
  have E1 := eql_task ⟨a0, a1, a2, a3, a4, a5, a6, a7, a8, a9, a10⟩
  unfold tc at E1
  dsimp only at E1
  have HE1 := Lib.hid E1
  clear E1 hn1
  obtain ⟨kb0, hb0⟩ := lies1 w #[.int .i64 a0, .int .i64 a1, .int .i64 pg, .int .i64 pc, .int .i64 un, .int .i64 k0, .int .i64 k1, .int .i64 k2, .int .i64 k3, .int .i64 st, .int .i64 rn] 24
  obtain ⟨V, hV⟩ : ∃ V, w.alloc (.cells #[.int .i64 a0, .int .i64 a1, .int .i64 pg, .int .i64 pc, .int .i64 un, .int .i64 k0, .int .i64 k1, .int .i64 k2, .int .i64 k3, .int .i64 st, .int .i64 rn] 24) = V := ⟨_, rfl⟩
  rw [hV] at hb0 kb0
  have HV := Lib.hid hV
  have BB := Lib.hid hb0
  have Kt := Lib.hid kb0
  have HBt : Hid (w.heap.size ≤ w.heap.size) := Lib.hid (by omega)
  clear hV hb0 kb0
  go_enter Tryd.func7, Tryd.ntmps7
  go_upto_region 1 with fail
  rw [HV.out]
  clear HV
  go_wp2_with fail
  refine (live_any _ (HF.out.le BB.out)).mono ?_
  rintro e U1 ⟨rfl, bU1⟩
  replace BB := Lib.hid (below3 BB.out bU1)
  replace Kt := Lib.hid (Kt.out.below bU1 Kt.out.lt)
  clear bU1
  obtain ⟨qt_0, qt_1, qt_2, qt_3, qt_4, qt_5, qt_6, qt_7, qt_8, qt_9, qt_10⟩ := Kt.out.c11
  have lt := Kt.out.lt
  go_wp2_with fail
  refine (CN.out _ BB.out).mono ?_
  rintro e U2 ⟨rfl, bU2⟩
  clear qt_0 qt_1 qt_2 qt_3 qt_4 qt_5 qt_6 qt_7 qt_8 qt_9 qt_10 lt
  replace BB := Lib.hid (below3 BB.out bU2)
  replace Kt := Lib.hid (Kt.out.below bU2 Kt.out.lt)
  clear bU2
  have kn := Bk.new U2 37 #[.int .i64 xo, .int .i64 xa, .int .i64 xb]
  have ba := (Below.refl U2.heap.size U2).alloc (Nat.le_refl _) (.cells #[.int .i64 xo, .int .i64 xa, .int .i64 xb] 37)
  have hgb := BB.out.size
  have nt_i := Nat.ne_of_lt Kt.out.lt
  replace BB := Lib.hid (below3 BB.out ba)
  replace Kt := Lib.hid (Kt.out.below ba Kt.out.lt)
  obtain ⟨gi, hg⟩ : ∃ g, U2.heap.size = g := ⟨_, rfl⟩
  obtain ⟨V3, hW⟩ : ∃ W, U2.alloc (.cells #[.int .i64 xo, .int .i64 xa, .int .i64 xb] 37) = W := ⟨_, rfl⟩
  have Ki := Lib.hid kn
  rw [hW] at BB Ki Kt
  rw [hg] at Ki hgb nt_i
  have HGi := Lib.hid hg
  have HWi := Lib.hid hW
  have HBi := Lib.hid hgb
  have Nt_i := Lib.hid nt_i
  clear hW hg kn ba hgb nt_i
  go_upto_region 7 with fail
  rw [HWi.out]
  try rw [HGi.out]
  clear HWi HGi
  obtain ⟨qt_0, qt_1, qt_2, qt_3, qt_4, qt_5, qt_6, qt_7, qt_8, qt_9, qt_10⟩ := Kt.out.c11
  have lt := Kt.out.lt
  go_wp2_with fail
  refine (CD.out _ BB.out).mono ?_
  rintro e U4 ⟨rfl, bU4⟩
  clear qt_0 qt_1 qt_2 qt_3 qt_4 qt_5 qt_6 qt_7 qt_8 qt_9 qt_10 lt
  replace BB := Lib.hid (below3 BB.out bU4)
  replace Kt := Lib.hid (Kt.out.below bU4 Kt.out.lt)
  replace Ki := Lib.hid (Ki.out.below bU4 Ki.out.lt)
  clear bU4
  obtain ⟨kn, km, ba⟩ := lies2 U4 #[.int .i64 a0, .int .i64 a1, .int .i64 a2, .int .i64 a3, .int .i64 a4, .int .i64 a5, .int .i64 a6, .int .i64 a7, .int .i64 a8, .int .i64 a9, .int .i64 a10] #[.int .i64 xo, .int .i64 xa, .int .i64 xb] 24 28
  have hgb := BB.out.size
  have nt_a := Kt.out.lt
  have ni_a := Ki.out.lt
  replace BB := Lib.hid (below3 BB.out ba)
  replace Kt := Lib.hid (Kt.out.below ba Kt.out.lt)
  replace Ki := Lib.hid (Ki.out.below ba Ki.out.lt)
  obtain ⟨ga, hg⟩ : ∃ g, U4.heap.size = g := ⟨_, rfl⟩
  obtain ⟨V5, hW⟩ : ∃ W, (U4.alloc (.cells #[.int .i64 a0, .int .i64 a1, .int .i64 a2, .int .i64 a3, .int .i64 a4, .int .i64 a5, .int .i64 a6, .int .i64 a7, .int .i64 a8, .int .i64 a9, .int .i64 a10] 24)).alloc (.cells #[.int .i64 xo, .int .i64 xa, .int .i64 xb] 28) = W := ⟨_, rfl⟩
  rw [hW] at BB kn km Kt Ki
  rw [hg] at kn km hgb nt_a ni_a
  have Ka := Lib.hid kn
  have Kx := Lib.hid km
  have HGa := Lib.hid hg
  have HWa := Lib.hid hW
  have HBa := Lib.hid hgb
  have HBx : Hid (w.heap.size ≤ ga + 1) := Lib.hid (by omega)
  have Na_x : Hid (ga ≠ ga + 1) := Lib.hid (by omega)
  have Nt_a : Hid (w.heap.size ≠ ga) := Lib.hid (by omega)
  have Nt_x : Hid (w.heap.size ≠ ga + 1) := Lib.hid (by omega)
  have Ni_a : Hid (gi ≠ ga) := Lib.hid (by omega)
  have Ni_x : Hid (gi ≠ ga + 1) := Lib.hid (by omega)
  clear hW hg kn km ba hgb nt_a ni_a
  go_upto_region 8 with fail
  rw [HWa.out]
  try rw [HGa.out]
  clear HWa HGa
  obtain ⟨qi_0, qi_1, qi_2⟩ := Ki.out.c3
  have li := Ki.out.lt
  obtain ⟨qx_0, qx_1, qx_2⟩ := Kx.out.c3
  have lx := Kx.out.lt
  obtain ⟨qt_0, qt_1, qt_2, qt_3, qt_4, qt_5, qt_6, qt_7, qt_8, qt_9, qt_10⟩ := Kt.out.c11
  have lt := Kt.out.lt
  skip
  have kn := Bk.new V5 24 #[.int .i64 a0, .int .i64 a1, .int .i64 pg, .int .i64 pc, .int .i64 un, .int .i64 k0, .int .i64 k1, .int .i64 k2, .int .i64 k3, .int .i64 st, .int .i64 rn]
  have ba := (Below.refl V5.heap.size V5).alloc (Nat.le_refl _) (.cells #[.int .i64 a0, .int .i64 a1, .int .i64 pg, .int .i64 pc, .int .i64 un, .int .i64 k0, .int .i64 k1, .int .i64 k2, .int .i64 k3, .int .i64 st, .int .i64 rn] 24)
  have hgb := BB.out.size
  have nt_o := Nat.ne_of_lt Kt.out.lt
  have ni_o := Nat.ne_of_lt Ki.out.lt
  have na_o := Nat.ne_of_lt Ka.out.lt
  have nx_o := Nat.ne_of_lt Kx.out.lt
  replace BB := Lib.hid (below3 BB.out ba)
  replace Kt := Lib.hid (Kt.out.below ba Kt.out.lt)
  replace Ki := Lib.hid (Ki.out.below ba Ki.out.lt)
  replace Ka := Lib.hid (Ka.out.below ba Ka.out.lt)
  replace Kx := Lib.hid (Kx.out.below ba Kx.out.lt)
  obtain ⟨go, hg⟩ : ∃ g, V5.heap.size = g := ⟨_, rfl⟩
  obtain ⟨V6, hW⟩ : ∃ W, V5.alloc (.cells #[.int .i64 a0, .int .i64 a1, .int .i64 pg, .int .i64 pc, .int .i64 un, .int .i64 k0, .int .i64 k1, .int .i64 k2, .int .i64 k3, .int .i64 st, .int .i64 rn] 24) = W := ⟨_, rfl⟩
  have Ko := Lib.hid kn
  rw [hW] at BB Ko Kt Ki Ka Kx
  rw [hg] at Ko hgb nt_o ni_o na_o nx_o
  have HGo := Lib.hid hg
  have HWo := Lib.hid hW
  have HBo := Lib.hid hgb
  have Nt_o := Lib.hid nt_o
  have Ni_o := Lib.hid ni_o
  have Na_o := Lib.hid na_o
  have Nx_o := Lib.hid nx_o
  clear hW hg kn ba hgb nt_o ni_o na_o nx_o
  go_upto_region 13 with fail
  rw [HWo.out]
  try rw [HGo.out]
  clear HWo HGo
  clear qi_0 qi_1 qi_2 li qx_0 qx_1 qx_2 lx qt_0 qt_1 qt_2 qt_3 qt_4 qt_5 qt_6 qt_7 qt_8 qt_9 qt_10 lt
  obtain ⟨qo_0, qo_1, qo_2, qo_3, qo_4, qo_5, qo_6, qo_7, qo_8, qo_9, qo_10⟩ := Ko.out.c11
  have lo := Ko.out.lt
  obtain ⟨fo_0, fo_1, fo_2, fo_3, fo_4, fo_5, fo_6, fo_7, fo_8, fo_9, fo_10⟩ := Ko.out.f11
  have x0 : Bk _ go 24 #[.int .i64 i2, .int .i64 a1, .int .i64 pg, .int .i64 pc, .int .i64 un, .int .i64 k0, .int .i64 k1, .int .i64 k2, .int .i64 k3, .int .i64 st, .int .i64 rn] := Ko.out.set_ 0 (.int .i64 i2)
  have x_t := Kt.out.far (p := ⟨go, 0, none⟩) Nt_o.out (.int .i64 i2)
  have x_i := Ki.out.far (p := ⟨go, 0, none⟩) Ni_o.out (.int .i64 i2)
  have x_a := Ka.out.far (p := ⟨go, 0, none⟩) Na_o.out (.int .i64 i2)
  have x_x := Kx.out.far (p := ⟨go, 0, none⟩) Nx_o.out (.int .i64 i2)
  have xb := BB.out.setCell (p := ⟨go, 0, none⟩) HBo.out (.int .i64 i2)
  obtain ⟨X7, hX⟩ : ∃ X, World.setCell V6 ⟨go, 0, none⟩ (.int .i64 i2) = X := ⟨_, rfl⟩
  rw [hX] at x0 xb x_t x_i x_a x_x
  have HX := Lib.hid hX
  replace Ko := Lib.hid x0
  replace BB := Lib.hid xb
  replace Kt := Lib.hid x_t
  replace Ki := Lib.hid x_i
  replace Ka := Lib.hid x_a
  replace Kx := Lib.hid x_x
  clear hX x0 xb x_t x_i x_a x_x
  go_upto_region 14 with fail
  rw [HX.out]
  clear HX
  clear qo_0 qo_1 qo_2 qo_3 qo_4 qo_5 qo_6 qo_7 qo_8 qo_9 qo_10 lo fo_0 fo_1 fo_2 fo_3 fo_4 fo_5 fo_6 fo_7 fo_8 fo_9 fo_10
  obtain ⟨qo_0, qo_1, qo_2, qo_3, qo_4, qo_5, qo_6, qo_7, qo_8, qo_9, qo_10⟩ := Ko.out.c11
  have lo := Ko.out.lt
  obtain ⟨fo_0, fo_1, fo_2, fo_3, fo_4, fo_5, fo_6, fo_7, fo_8, fo_9, fo_10⟩ := Ko.out.f11
  have x0 : Bk _ go 24 #[.int .i64 i2, .int .i64 tn2, .int .i64 pg, .int .i64 pc, .int .i64 un, .int .i64 k0, .int .i64 k1, .int .i64 k2, .int .i64 k3, .int .i64 st, .int .i64 rn] := Ko.out.set_ 1 (.int .i64 tn2)
  have x_t := Kt.out.far (p := ⟨go, 1, none⟩) Nt_o.out (.int .i64 tn2)
  have x_i := Ki.out.far (p := ⟨go, 1, none⟩) Ni_o.out (.int .i64 tn2)
  have x_a := Ka.out.far (p := ⟨go, 1, none⟩) Na_o.out (.int .i64 tn2)
  have x_x := Kx.out.far (p := ⟨go, 1, none⟩) Nx_o.out (.int .i64 tn2)
  have xb := BB.out.setCell (p := ⟨go, 1, none⟩) HBo.out (.int .i64 tn2)
  obtain ⟨X8, hX⟩ : ∃ X, World.setCell X7 ⟨go, 1, none⟩ (.int .i64 tn2) = X := ⟨_, rfl⟩
  rw [hX] at x0 xb x_t x_i x_a x_x
  have HX := Lib.hid hX
  replace Ko := Lib.hid x0
  replace BB := Lib.hid xb
  replace Kt := Lib.hid x_t
  replace Ki := Lib.hid x_i
  replace Ka := Lib.hid x_a
  replace Kx := Lib.hid x_x
  clear hX x0 xb x_t x_i x_a x_x
  go_upto_region 15 with fail
  rw [HX.out]
  clear HX
  clear qo_0 qo_1 qo_2 qo_3 qo_4 qo_5 qo_6 qo_7 qo_8 qo_9 qo_10 lo fo_0 fo_1 fo_2 fo_3 fo_4 fo_5 fo_6 fo_7 fo_8 fo_9 fo_10
  obtain ⟨qo_0, qo_1, qo_2, qo_3, qo_4, qo_5, qo_6, qo_7, qo_8, qo_9, qo_10⟩ := Ko.out.c11
  have lo := Ko.out.lt
  go_wp2_with fail
  refine (CE.out _ BB.out).mono ?_
  rintro e U9 ⟨rfl, bU9⟩
  clear qo_0 qo_1 qo_2 qo_3 qo_4 qo_5 qo_6 qo_7 qo_8 qo_9 qo_10 lo
  replace BB := Lib.hid (below3 BB.out bU9)
  replace Kt := Lib.hid (Kt.out.below bU9 Kt.out.lt)
  replace Ki := Lib.hid (Ki.out.below bU9 Ki.out.lt)
  replace Ka := Lib.hid (Ka.out.below bU9 Ka.out.lt)
  replace Kx := Lib.hid (Kx.out.below bU9 Kx.out.lt)
  replace Ko := Lib.hid (Ko.out.below bU9 Ko.out.lt)
  clear bU9
  obtain ⟨kn, km, ba⟩ := lies2 U9 #[.int .i64 b0, .int .i64 b1, .int .i64 b2, .int .i64 b3, .int .i64 b4, .int .i64 b5, .int .i64 b6, .int .i64 b7, .int .i64 b8, .int .i64 b9, .int .i64 b10] #[.int .i64 yo, .int .i64 ya, .int .i64 yb] 24 28
  have hgb := BB.out.size
  have nt_b := Kt.out.lt
  have ni_b := Ki.out.lt
  have na_b := Ka.out.lt
  have nx_b := Kx.out.lt
  have no_b := Ko.out.lt
  replace BB := Lib.hid (below3 BB.out ba)
  replace Kt := Lib.hid (Kt.out.below ba Kt.out.lt)
  replace Ki := Lib.hid (Ki.out.below ba Ki.out.lt)
  replace Ka := Lib.hid (Ka.out.below ba Ka.out.lt)
  replace Kx := Lib.hid (Kx.out.below ba Kx.out.lt)
  replace Ko := Lib.hid (Ko.out.below ba Ko.out.lt)
  obtain ⟨gb, hg⟩ : ∃ g, U9.heap.size = g := ⟨_, rfl⟩
  obtain ⟨V10, hW⟩ : ∃ W, (U9.alloc (.cells #[.int .i64 b0, .int .i64 b1, .int .i64 b2, .int .i64 b3, .int .i64 b4, .int .i64 b5, .int .i64 b6, .int .i64 b7, .int .i64 b8, .int .i64 b9, .int .i64 b10] 24)).alloc (.cells #[.int .i64 yo, .int .i64 ya, .int .i64 yb] 28) = W := ⟨_, rfl⟩
  rw [hW] at BB kn km Kt Ki Ka Kx Ko
  rw [hg] at kn km hgb nt_b ni_b na_b nx_b no_b
  have Kb := Lib.hid kn
  have Ky := Lib.hid km
  have HGa := Lib.hid hg
  have HWa := Lib.hid hW
  have HBb := Lib.hid hgb
  have HBy : Hid (w.heap.size ≤ gb + 1) := Lib.hid (by omega)
  have Nb_y : Hid (gb ≠ gb + 1) := Lib.hid (by omega)
  have Nt_b : Hid (w.heap.size ≠ gb) := Lib.hid (by omega)
  have Nt_y : Hid (w.heap.size ≠ gb + 1) := Lib.hid (by omega)
  have Ni_b : Hid (gi ≠ gb) := Lib.hid (by omega)
  have Ni_y : Hid (gi ≠ gb + 1) := Lib.hid (by omega)
  have Na_b : Hid (ga ≠ gb) := Lib.hid (by omega)
  have Na_y : Hid (ga ≠ gb + 1) := Lib.hid (by omega)
  have Nx_b : Hid ((ga + 1) ≠ gb) := Lib.hid (by omega)
  have Nx_y : Hid ((ga + 1) ≠ gb + 1) := Lib.hid (by omega)
  have No_b : Hid (go ≠ gb) := Lib.hid (by omega)
  have No_y : Hid (go ≠ gb + 1) := Lib.hid (by omega)
  clear hW hg kn km ba hgb nt_b ni_b na_b nx_b no_b
  go_upto_region 16 with fail
  rw [HWa.out]
  try rw [HGa.out]
  clear HWa HGa
  obtain ⟨qo_0, qo_1, qo_2, qo_3, qo_4, qo_5, qo_6, qo_7, qo_8, qo_9, qo_10⟩ := Ko.out.c11
  have lo := Ko.out.lt
  go_wp2_with fail
  refine (CC.out _).mono ?_
  rintro e U11 ⟨rfl, bU11⟩
  clear qo_0 qo_1 qo_2 qo_3 qo_4 qo_5 qo_6 qo_7 qo_8 qo_9 qo_10 lo
  replace BB := Lib.hid (below3 BB.out bU11)
  replace Kt := Lib.hid (Kt.out.below bU11 Kt.out.lt)
  replace Ki := Lib.hid (Ki.out.below bU11 Ki.out.lt)
  replace Ka := Lib.hid (Ka.out.below bU11 Ka.out.lt)
  replace Kx := Lib.hid (Kx.out.below bU11 Kx.out.lt)
  replace Ko := Lib.hid (Ko.out.below bU11 Ko.out.lt)
  replace Kb := Lib.hid (Kb.out.below bU11 Kb.out.lt)
  replace Ky := Lib.hid (Ky.out.below bU11 Ky.out.lt)
  clear bU11
  go_wp2
  go_ret
  exact ⟨rfl, BB.out⟩

theorem lnext_any (t : Tk) (A : Option Addr) (n c : Nat) (p : List I3) (i2 tn2 : Int) (w : World) (hp : Prog w A n c p) (hF : Fol w) : Calls Tryd.prog 7 #[.agg (tc t), .slice A n c, .int .i64 i2, .int .i64 tn2] w (TrueAns w) := by
  by_cases hb : 200 < n
  · exact lnext_1 t A n c p i2 tn2 w hp hF hb
  · by_cases hf : (doR t p).2.2 = 0
    · by_cases hio : (atI p t.pc).1 = 1
      · by_cases hg : (doR { t with id := i2, tn := tn2 } p).2.2 = 0
        · exact lnext_3 t A n c p i2 tn2 w hp hF hb hf hg hio
        · exact lnext_5 t A n c p i2 tn2 w hp hF hb hf hg hio
      · by_cases hg : (doR { t with id := i2, tn := tn2 } p).2.2 = 0
        · exact lnext_4 t A n c p i2 tn2 w hp hF hb hf hg hio
        · exact lnext_6 t A n c p i2 tn2 w hp hF hb hf hg hio
    · exact lnext_2 t A n c p i2 tn2 w hp hF hb hf

end Go.Proofs.YtlbmlhcphoiaeaaDoor

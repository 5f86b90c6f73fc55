/-
  The walk of the law DiceDoes of layer 3: whatever is drawn of any dice is the document's.
-/
import Derived.Test.YtllanhboaoedmaaBoth
import Derived.Test.YtllanhboaoedmaaCalm
namespace Go.Proofs.Ytllanhboaoedmaa
open Go.RowKit

theorem OwnO.octsN {E : TypeId} {w : World} {base : Nat} {A : Option Addr} {c n : Nat} {zs : List Int} (h : OwnO E w base A c zs) (hl : zs.length = n) : Octs w A n zs := hl ▸ h.octs

theorem calm_dice {ops : Array Oper} {S : World → Prop} {o : Oper} {a : Act} (hw : Region.wanted o (yielded ops a.tmps) = true) (x : Operand) (ho : o.op = .load 24 x) (g : Nat) (hx : a.eval x = .pointer (some ⟨g, 0, none⟩)) {u v : Value}
    (hS : ∀ w, S w → Bk w g 24 #[u, v]) : Calm Try.prog ops S o (.agg #[u, v]) a :=
  calm_of hw fun w hw' => by
    unfold execOp
    simp only [ho, hx, Instr.loadAt, Instr.sureAddr, Sem.run_bind, Sem.run_pure, Result.andThen_ok, run_loadVar_row w g 24 24 #[u, v] (0, 0) _ (hS w hw') Try.underlying24 rfl (by kernel_rfl)]

set_option maxRecDepth 100000 in
set_option maxHeartbeats 2000000 in
theorem does_big (A A1 B : Option Addr) (N c N1 c1 k d : Nat) (p p1 m n : Int) (w : World) (h0 : N ≤ 9223372036854775807) (h1 : N1 ≤ 9223372036854775807) (hk : k * 8 ≤ 140737488351232) (h : 1000 < N ∨ 1000 < N1 ∨ 400 < k) :
    Calls Try.prog 3 #[.agg #[.slice A N c, .int .i64 p], .agg #[.slice A1 N1 c1, .int .i64 p1], .int .i64 m, .int .i64 n, .slice B k d] w (TrueAns w) := by
  obtain ⟨k2, k5, b0⟩ := lies2 w #[.slice A N c, .int .i64 p] #[.slice A1 N1 c1, .int .i64 p1] 24 24
  by_cases g1 : 1000 < N
  · go_enter Try.func3, Try.ntmps3
    go_wp2_with fail
    refine (live_any _).mono ?_
    rintro e w1 ⟨rfl, hb1⟩
    have a0 := (k2.below hb1 k2.lt).c0
    have HB := Lib.hid (below3 b0 hb1)
    clear hb1 b0 k2 k5
    go_wp2
    go_ret
    exact ⟨rfl, HB.out⟩
  · by_cases g2 : 1000 < N1
    all_goals
      go_enter Try.func3, Try.ntmps3
      go_wp2_with fail
      refine (live_any _).mono ?_
      rintro e w1 ⟨rfl, hb1⟩
      have a0 := (k2.below hb1 k2.lt).c0
      have a1 := (k5.below hb1 k5.lt).c0
      have HB := Lib.hid (below3 b0 hb1)
      clear hb1 b0 k2 k5
      go_wp2
      go_ret
      exact ⟨rfl, HB.out⟩

set_option maxRecDepth 100000 in
set_option maxHeartbeats 8000000 in
theorem does_main (A A1 B : Option Addr) (N c N1 c1 k d : Nat) (p p1 m n : Int) (bs bs1 ws : List Int) (w : World) (hl : Octs w A N bs) (hl1 : Octs w A1 N1 bs1) (hw : Ints w B k ws) (h0 : N ≤ 1000) (h1 : N1 ≤ 1000) (hk : k ≤ 400) :
    Calls Try.prog 3 #[.agg #[.slice A N c, .int .i64 p], .agg #[.slice A1 N1 c1, .int .i64 p1], .int .i64 m, .int .i64 n, .slice B k d] w (TrueAns w) := by
  obtain ⟨k2, k5, b0⟩ := lies2 w #[.slice A N c, .int .i64 p] #[.slice A1 N1 c1, .int .i64 p1] 24 24
  obtain ⟨kx, rx, nx, qx, ex, lx, nx1, CX⟩ := below_both A N c p m bs h0
  obtain ⟨ly, my, ry, ny, qy, ey, CY⟩ := order_both A N c p n bs h0
  obtain ⟨kz, rz, nz, qz, ez, lz, CZ⟩ := heavy_both A B N c k d p bs ws h0
  obtain ⟨E, CE⟩ := check_both A N c p h0
  have O_l := Lib.hid (hl.below b0)
  have O_l1 := Lib.hid (hl1.below b0)
  have O_w := Lib.hid (hw.below b0)
  have K_d := Lib.hid k2
  have K_o := Lib.hid k5
  have BB := Lib.hid b0
  have LX := Lib.hid lx
  have LZ := Lib.hid lz
  have HL := Lib.hid hl
  replace CX := Lib.hid CX
  replace CY := Lib.hid CY
  replace CZ := Lib.hid CZ
  replace CE := Lib.hid CE
  clear hl hl1 hw k2 k5 b0 lx lz
  go_enter Try.func3, Try.ntmps3
  go_wp2_with fail
  refine (live_any _).mono ?_
  rintro e w1 ⟨rfl, hb⟩
  have ha := hb
  replace K_d := Lib.hid (K_d.out.below ha K_d.out.lt)
  replace K_o := Lib.hid (K_o.out.below ha K_o.out.lt)
  replace O_l := Lib.hid (O_l.out.below ha)
  replace O_l1 := Lib.hid (O_l1.out.below ha)
  replace O_w := Lib.hid (O_w.out.below ha)
  replace BB := Lib.hid (below3 BB.out ha)
  clear ha hb
  have a_d := K_d.out.c0
  have b_d := K_d.out.c1
  have a_o := K_o.out.c0
  have b_o := K_o.out.c1
  have HW1 := Lib.hid K_o.out.lt
  have cv := O_l.out.convert (P := Try.prog) c 22 5 9 Try.underlying22 Try.underlying5 Try.underlying9
  go_wp2_with fail
  refine ((CX.out _ O_l.out).1).mono ?_
  rintro e w2 ⟨Ax, cx, rfl, hx, hb⟩
  clear a_d b_d a_o b_o cv
  have HXL : Hid (∀ j, (Value.slice Ax nx cx).ownBlock = some j → w1.heap.size ≤ j ∧ j < w2.heap.size) := Lib.hid (fun j hj => ⟨hx.block j hj, by rw [← LX.out] at hj; exact (hx.2.2.lt j hj).2⟩)
  have ha := hb.alloc hb.size (.cells #[.slice Ax nx cx, .int .i64 qx] 24)
  have han := (Below.refl w2.heap.size w2).alloc (Nat.le_refl _) (.cells #[.slice Ax nx cx, .int .i64 qx] 24)
  replace K_d := Lib.hid (K_d.out.below ha K_d.out.lt)
  replace K_o := Lib.hid (K_o.out.below ha K_o.out.lt)
  replace O_l := Lib.hid (O_l.out.below ha)
  replace O_l1 := Lib.hid (O_l1.out.below ha)
  replace O_w := Lib.hid (O_w.out.below ha)
  replace BB := Lib.hid (below3 BB.out ha)
  have O_px := Lib.hid ((hx).below han)
  have K_x := Lib.hid (Bk.new w2 24 #[.slice Ax nx cx, .int .i64 qx])
  clear ha hb han hx
  have a_d := K_d.out.c0
  have b_d := K_d.out.c1
  go_wp2_with fail
  refine ((CX.out _ O_l.out).2).mono ?_
  rintro e w3 ⟨Ax2, cx2, rfl, hx, hb⟩
  clear a_d b_d
  have ha := hb.alloc hb.size (.cells #[.slice Ax2 nx cx2, .int .i64 qx] 24)
  have han := (Below.refl w3.heap.size w3).alloc (Nat.le_refl _) (.cells #[.slice Ax2 nx cx2, .int .i64 qx] 24)
  replace K_d := Lib.hid (K_d.out.below ha K_d.out.lt)
  replace K_o := Lib.hid (K_o.out.below ha K_o.out.lt)
  replace K_x := Lib.hid (K_x.out.below ha K_x.out.lt)
  replace O_l := Lib.hid (O_l.out.below ha)
  replace O_l1 := Lib.hid (O_l1.out.below ha)
  replace O_w := Lib.hid (O_w.out.below ha)
  replace O_px := Lib.hid (O_px.out.below ha)
  replace BB := Lib.hid (below3 BB.out ha)
  have O_x2 := Lib.hid ((hx.octsN LX.out).below han)
  have K_x2 := Lib.hid (Bk.new w3 24 #[.slice Ax2 nx cx2, .int .i64 qx])
  clear ha hb han hx
  have a_d := K_d.out.c0
  have b_d := K_d.out.c1
  go_wp2_with fail
  refine ((CY.out _ O_l.out).1).mono ?_
  rintro e w4 ⟨Ay, cy, By, dy, rfl, hq, hx, hb⟩
  clear a_d b_d
  have ha := hb.alloc hb.size (.cells #[.slice Ay ny cy, .int .i64 qy] 24)
  have han := (Below.refl w4.heap.size w4).alloc (Nat.le_refl _) (.cells #[.slice Ay ny cy, .int .i64 qy] 24)
  replace K_d := Lib.hid (K_d.out.below ha K_d.out.lt)
  replace K_o := Lib.hid (K_o.out.below ha K_o.out.lt)
  replace K_x := Lib.hid (K_x.out.below ha K_x.out.lt)
  replace K_x2 := Lib.hid (K_x2.out.below ha K_x2.out.lt)
  replace O_l := Lib.hid (O_l.out.below ha)
  replace O_l1 := Lib.hid (O_l1.out.below ha)
  replace O_w := Lib.hid (O_w.out.below ha)
  replace O_px := Lib.hid (O_px.out.below ha)
  replace O_x2 := Lib.hid (O_x2.out.below ha)
  replace BB := Lib.hid (below3 BB.out ha)
  have O_q := Lib.hid ((hq).below han)
  have O_y := Lib.hid ((hx).below han)
  have K_y := Lib.hid (Bk.new w4 24 #[.slice Ay ny cy, .int .i64 qy])
  clear ha hb han hq hx
  have a_d := K_d.out.c0
  have b_d := K_d.out.c1
  go_wp2_with fail
  refine ((CY.out _ O_l.out).2).mono ?_
  rintro e w5 ⟨Ay2, cy2, By2, dy2, rfl, hq, hx, hb⟩
  clear a_d b_d
  have ha := hb.alloc hb.size (.cells #[.slice Ay2 ny cy2, .int .i64 qy] 24)
  have han := (Below.refl w5.heap.size w5).alloc (Nat.le_refl _) (.cells #[.slice Ay2 ny cy2, .int .i64 qy] 24)
  replace K_d := Lib.hid (K_d.out.below ha K_d.out.lt)
  replace K_o := Lib.hid (K_o.out.below ha K_o.out.lt)
  replace K_x := Lib.hid (K_x.out.below ha K_x.out.lt)
  replace K_x2 := Lib.hid (K_x2.out.below ha K_x2.out.lt)
  replace K_y := Lib.hid (K_y.out.below ha K_y.out.lt)
  replace O_l := Lib.hid (O_l.out.below ha)
  replace O_l1 := Lib.hid (O_l1.out.below ha)
  replace O_w := Lib.hid (O_w.out.below ha)
  replace O_px := Lib.hid (O_px.out.below ha)
  replace O_x2 := Lib.hid (O_x2.out.below ha)
  replace O_q := Lib.hid (O_q.out.below ha)
  replace O_y := Lib.hid (O_y.out.below ha)
  replace BB := Lib.hid (below3 BB.out ha)
  have O_q2 := Lib.hid ((hq).below han)
  have O_y2 := Lib.hid ((hx).below han)
  have K_y2 := Lib.hid (Bk.new w5 24 #[.slice Ay2 ny cy2, .int .i64 qy])
  clear ha hb han hq hx
  have a_d := K_d.out.c0
  have b_d := K_d.out.c1
  go_wp2_with fail
  refine ((CZ.out _ O_l.out O_w.out).1).mono ?_
  rintro e w6 ⟨Az, cz, rfl, hx, hb⟩
  clear a_d b_d
  have ha := hb.alloc hb.size (.cells #[.slice Az nz cz, .int .i64 qz] 24)
  have han := (Below.refl w6.heap.size w6).alloc (Nat.le_refl _) (.cells #[.slice Az nz cz, .int .i64 qz] 24)
  replace K_d := Lib.hid (K_d.out.below ha K_d.out.lt)
  replace K_o := Lib.hid (K_o.out.below ha K_o.out.lt)
  replace K_x := Lib.hid (K_x.out.below ha K_x.out.lt)
  replace K_x2 := Lib.hid (K_x2.out.below ha K_x2.out.lt)
  replace K_y := Lib.hid (K_y.out.below ha K_y.out.lt)
  replace K_y2 := Lib.hid (K_y2.out.below ha K_y2.out.lt)
  replace O_l := Lib.hid (O_l.out.below ha)
  replace O_l1 := Lib.hid (O_l1.out.below ha)
  replace O_w := Lib.hid (O_w.out.below ha)
  replace O_px := Lib.hid (O_px.out.below ha)
  replace O_x2 := Lib.hid (O_x2.out.below ha)
  replace O_q := Lib.hid (O_q.out.below ha)
  replace O_y := Lib.hid (O_y.out.below ha)
  replace O_q2 := Lib.hid (O_q2.out.below ha)
  replace O_y2 := Lib.hid (O_y2.out.below ha)
  replace BB := Lib.hid (below3 BB.out ha)
  have O_z := Lib.hid ((hx.octsN LZ.out).below han)
  have K_z := Lib.hid (Bk.new w6 24 #[.slice Az nz cz, .int .i64 qz])
  clear ha hb han hx
  have a_d := K_d.out.c0
  have b_d := K_d.out.c1
  go_wp2_with fail
  refine ((CZ.out _ O_l.out O_w.out).2).mono ?_
  rintro e w7 ⟨Az2, cz2, rfl, hx, hb⟩
  clear a_d b_d
  have ha := hb.alloc hb.size (.cells #[.slice Az2 nz cz2, .int .i64 qz] 24)
  have han := (Below.refl w7.heap.size w7).alloc (Nat.le_refl _) (.cells #[.slice Az2 nz cz2, .int .i64 qz] 24)
  replace K_d := Lib.hid (K_d.out.below ha K_d.out.lt)
  replace K_o := Lib.hid (K_o.out.below ha K_o.out.lt)
  replace K_x := Lib.hid (K_x.out.below ha K_x.out.lt)
  replace K_x2 := Lib.hid (K_x2.out.below ha K_x2.out.lt)
  replace K_y := Lib.hid (K_y.out.below ha K_y.out.lt)
  replace K_y2 := Lib.hid (K_y2.out.below ha K_y2.out.lt)
  replace K_z := Lib.hid (K_z.out.below ha K_z.out.lt)
  replace O_l := Lib.hid (O_l.out.below ha)
  replace O_l1 := Lib.hid (O_l1.out.below ha)
  replace O_w := Lib.hid (O_w.out.below ha)
  replace O_px := Lib.hid (O_px.out.below ha)
  replace O_x2 := Lib.hid (O_x2.out.below ha)
  replace O_q := Lib.hid (O_q.out.below ha)
  replace O_y := Lib.hid (O_y.out.below ha)
  replace O_q2 := Lib.hid (O_q2.out.below ha)
  replace O_y2 := Lib.hid (O_y2.out.below ha)
  replace O_z := Lib.hid (O_z.out.below ha)
  replace BB := Lib.hid (below3 BB.out ha)
  have O_z2 := Lib.hid ((hx.octsN LZ.out).below han)
  have K_z2 := Lib.hid (Bk.new w7 24 #[.slice Az2 nz cz2, .int .i64 qz])
  clear ha hb han hx
  go_wp2_with fail
  have HO1 := Lib.hid O_l1.out
  generalize hW0 : w7.alloc (.cells #[.slice Az2 nz cz2, .int .i64 qz] 24) = W0 at *
  clear hW0
  refine calm_region (S := fun U => Below W0.heap.size W0 U) (by kernel_rfl) (Below.refl _ _).drew ?_
  refine calm_to (i := 0) (t := 97) (v := .int .i64 kx) rfl rfl (by kernel_rfl) (by kernel_rfl) (by kernel_rfl) (fun _ _ _ h => h) (calm_move rfl (.tmp 13) (.inl rfl) rfl) ?_
  simp only [List.setIfInBounds_toArray, List.set_cons_zero, List.set_cons_succ]
  refine calm_to (i := 1) (t := 98) (v := .int .i64 kx) rfl rfl (by kernel_rfl) (by kernel_rfl) (by kernel_rfl) (fun _ _ _ h => h) (calm_move rfl (.tmp 16) (.inl rfl) rfl) ?_
  simp only [List.setIfInBounds_toArray, List.set_cons_zero, List.set_cons_succ]
  refine calm_to (i := 2) (t := 99) (v := .bool true) rfl rfl (by kernel_rfl) (by kernel_rfl) (by kernel_rfl) (fun _ _ _ h => h) (calm_of rfl (fun U _ => by go_simp)) ?_
  simp only [List.setIfInBounds_toArray, List.set_cons_zero, List.set_cons_succ]
  refine calm_to (i := 3) (t := 100) (v := .bool true) rfl rfl (by kernel_rfl) (by kernel_rfl) (by kernel_rfl) (fun _ _ _ h => h) (calm_move rfl (.tmp 99) (.inl rfl) rfl) ?_
  simp only [List.setIfInBounds_toArray, List.set_cons_zero, List.set_cons_succ]
  refine calm_to (i := 4) (t := 101) (v := .agg #[.slice Ax nx cx, .int .i64 qx]) rfl rfl (by kernel_rfl) (by kernel_rfl) (by kernel_rfl) (fun _ _ _ h => h) (calm_dice rfl (.tmp 14) rfl _ rfl (fun U hU => K_x.out.below hU K_x.out.lt)) ?_
  simp only [List.setIfInBounds_toArray, List.set_cons_zero, List.set_cons_succ]
  refine calm_to (i := 5) (t := 102) (v := .agg #[.slice Ax2 nx cx2, .int .i64 qx]) rfl rfl (by kernel_rfl) (by kernel_rfl) (by kernel_rfl) (fun _ _ _ h => h) (calm_dice rfl (.tmp 17) rfl _ rfl (fun U hU => K_x2.out.below hU K_x2.out.lt)) ?_
  simp only [List.setIfInBounds_toArray, List.set_cons_zero, List.set_cons_succ]
  refine calm_to (i := 6) (t := 103) (v := .bool true) rfl rfl (by kernel_rfl) (by kernel_rfl) (by kernel_rfl) (fun _ _ _ h => h) (calm_call2 rfl 16 (.tmp 101) (.tmp 102) #[24, 24] rfl (enters_of Try.func16 (by kernel_rfl) rfl) (.agg #[.slice Ax nx cx, .int .i64 qx]) (.agg #[.slice Ax2 nx cx2, .int .i64 qx]) rfl rfl (fun U hU => (rsame_yes Ax Ax2 nx cx cx2 qx rx U ((O_px.out.octsN LX.out).below hU) (O_x2.out.below hU)).mono fun _ _ hh => ⟨hh.1, hU.trans (hh.2.mono hU.size)⟩)) ?_
  simp only [List.setIfInBounds_toArray, List.set_cons_zero, List.set_cons_succ]
  refine calm_to (i := 7) (t := 104) (v := .bool true) rfl rfl (by kernel_rfl) (by kernel_rfl) (by kernel_rfl) (fun _ _ _ h => h) (calm_pick rfl (.tmp 100) (.tmp 103) (.const (.bool false)) rfl true rfl rfl) ?_
  simp only [List.setIfInBounds_toArray, List.set_cons_zero, List.set_cons_succ]
  refine calm_to (i := 8) (t := 105) (v := .bool true) rfl rfl (by kernel_rfl) (by kernel_rfl) (by kernel_rfl) (fun _ _ _ h => h) (calm_move rfl (.tmp 104) (.inl rfl) rfl) ?_
  simp only [List.setIfInBounds_toArray, List.set_cons_zero, List.set_cons_succ]
  refine calm_to (i := 9) (t := 106) (v := .int .i64 ex) rfl rfl (by kernel_rfl) (by kernel_rfl) (by kernel_rfl) (fun _ _ _ h => h) (calm_move rfl (.tmp 15) (.inl rfl) rfl) ?_
  simp only [List.setIfInBounds_toArray, List.set_cons_zero, List.set_cons_succ]
  refine calm_to (i := 10) (t := 107) (v := .int .i64 ex) rfl rfl (by kernel_rfl) (by kernel_rfl) (by kernel_rfl) (fun _ _ _ h => h) (calm_move rfl (.tmp 18) (.inl rfl) rfl) ?_
  simp only [List.setIfInBounds_toArray, List.set_cons_zero, List.set_cons_succ]
  refine calm_to (i := 11) (t := 108) (v := .bool true) rfl rfl (by kernel_rfl) (by kernel_rfl) (by kernel_rfl) (fun _ _ _ h => h) (calm_of rfl (fun U _ => by go_simp)) ?_
  simp only [List.setIfInBounds_toArray, List.set_cons_zero, List.set_cons_succ]
  refine calm_to (i := 12) (t := 109) (v := .bool true) rfl rfl (by kernel_rfl) (by kernel_rfl) (by kernel_rfl) (fun _ _ _ h => h) (calm_pick rfl (.tmp 105) (.tmp 108) (.const (.bool false)) rfl true rfl rfl) ?_
  simp only [List.setIfInBounds_toArray, List.set_cons_zero, List.set_cons_succ]
  refine calm_to (i := 13) (t := 110) (v := .bool true) rfl rfl (by kernel_rfl) (by kernel_rfl) (by kernel_rfl) (fun _ _ _ h => h) (calm_move rfl (.tmp 109) (.inl rfl) rfl) ?_
  simp only [List.setIfInBounds_toArray, List.set_cons_zero, List.set_cons_succ]
  refine calm_to (i := 14) (t := 111) (v := .slice By my dy) rfl rfl (by kernel_rfl) (by kernel_rfl) (by kernel_rfl) (fun _ _ _ h => h) (calm_move rfl (.tmp 19) (.inl rfl) rfl) ?_
  simp only [List.setIfInBounds_toArray, List.set_cons_zero, List.set_cons_succ]
  refine calm_to (i := 15) (t := 112) (v := .slice By2 my dy2) rfl rfl (by kernel_rfl) (by kernel_rfl) (by kernel_rfl) (fun _ _ _ h => h) (calm_move rfl (.tmp 22) (.inl rfl) rfl) ?_
  simp only [List.setIfInBounds_toArray, List.set_cons_zero, List.set_cons_succ]
  refine calm_to (i := 16) (t := 113) (v := .bool true) rfl rfl (by kernel_rfl) (by kernel_rfl) (by kernel_rfl) (fun _ _ _ h => h) (calm_call2 rfl 17 (.tmp 111) (.tmp 112) #[25, 25] rfl (enters_of Try.func17 (by kernel_rfl) rfl) (.slice By my dy) (.slice By2 my dy2) rfl rfl (fun U hU => (sameInts_yes By By2 my dy dy2 ly U (O_q.out.below hU) (O_q2.out.below hU)).mono fun _ _ hh => ⟨hh.1, hU.trans (hh.2.mono hU.size)⟩)) ?_
  simp only [List.setIfInBounds_toArray, List.set_cons_zero, List.set_cons_succ]
  refine calm_to (i := 17) (t := 114) (v := .bool true) rfl rfl (by kernel_rfl) (by kernel_rfl) (by kernel_rfl) (fun _ _ _ h => h) (calm_pick rfl (.tmp 110) (.tmp 113) (.const (.bool false)) rfl true rfl rfl) ?_
  simp only [List.setIfInBounds_toArray, List.set_cons_zero, List.set_cons_succ]
  refine calm_to (i := 18) (t := 115) (v := .bool true) rfl rfl (by kernel_rfl) (by kernel_rfl) (by kernel_rfl) (fun _ _ _ h => h) (calm_move rfl (.tmp 114) (.inl rfl) rfl) ?_
  simp only [List.setIfInBounds_toArray, List.set_cons_zero, List.set_cons_succ]
  refine calm_to (i := 19) (t := 116) (v := .agg #[.slice Ay ny cy, .int .i64 qy]) rfl rfl (by kernel_rfl) (by kernel_rfl) (by kernel_rfl) (fun _ _ _ h => h) (calm_dice rfl (.tmp 20) rfl _ rfl (fun U hU => K_y.out.below hU K_y.out.lt)) ?_
  simp only [List.setIfInBounds_toArray, List.set_cons_zero, List.set_cons_succ]
  refine calm_to (i := 20) (t := 117) (v := .agg #[.slice Ay2 ny cy2, .int .i64 qy]) rfl rfl (by kernel_rfl) (by kernel_rfl) (by kernel_rfl) (fun _ _ _ h => h) (calm_dice rfl (.tmp 23) rfl _ rfl (fun U hU => K_y2.out.below hU K_y2.out.lt)) ?_
  simp only [List.setIfInBounds_toArray, List.set_cons_zero, List.set_cons_succ]
  refine calm_to (i := 21) (t := 118) (v := .bool true) rfl rfl (by kernel_rfl) (by kernel_rfl) (by kernel_rfl) (fun _ _ _ h => h) (calm_call2 rfl 16 (.tmp 116) (.tmp 117) #[24, 24] rfl (enters_of Try.func16 (by kernel_rfl) rfl) (.agg #[.slice Ay ny cy, .int .i64 qy]) (.agg #[.slice Ay2 ny cy2, .int .i64 qy]) rfl rfl (fun U hU => (rsame_yes Ay Ay2 ny cy cy2 qy ry U (O_y.out.below hU) (O_y2.out.below hU)).mono fun _ _ hh => ⟨hh.1, hU.trans (hh.2.mono hU.size)⟩)) ?_
  simp only [List.setIfInBounds_toArray, List.set_cons_zero, List.set_cons_succ]
  refine calm_to (i := 22) (t := 119) (v := .bool true) rfl rfl (by kernel_rfl) (by kernel_rfl) (by kernel_rfl) (fun _ _ _ h => h) (calm_pick rfl (.tmp 115) (.tmp 118) (.const (.bool false)) rfl true rfl rfl) ?_
  simp only [List.setIfInBounds_toArray, List.set_cons_zero, List.set_cons_succ]
  refine calm_to (i := 23) (t := 120) (v := .bool true) rfl rfl (by kernel_rfl) (by kernel_rfl) (by kernel_rfl) (fun _ _ _ h => h) (calm_move rfl (.tmp 119) (.inl rfl) rfl) ?_
  simp only [List.setIfInBounds_toArray, List.set_cons_zero, List.set_cons_succ]
  refine calm_to (i := 24) (t := 121) (v := .int .i64 ey) rfl rfl (by kernel_rfl) (by kernel_rfl) (by kernel_rfl) (fun _ _ _ h => h) (calm_move rfl (.tmp 21) (.inl rfl) rfl) ?_
  simp only [List.setIfInBounds_toArray, List.set_cons_zero, List.set_cons_succ]
  refine calm_to (i := 25) (t := 122) (v := .int .i64 ey) rfl rfl (by kernel_rfl) (by kernel_rfl) (by kernel_rfl) (fun _ _ _ h => h) (calm_move rfl (.tmp 24) (.inl rfl) rfl) ?_
  simp only [List.setIfInBounds_toArray, List.set_cons_zero, List.set_cons_succ]
  refine calm_to (i := 26) (t := 123) (v := .bool true) rfl rfl (by kernel_rfl) (by kernel_rfl) (by kernel_rfl) (fun _ _ _ h => h) (calm_of rfl (fun U _ => by go_simp)) ?_
  simp only [List.setIfInBounds_toArray, List.set_cons_zero, List.set_cons_succ]
  refine calm_to (i := 27) (t := 124) (v := .bool true) rfl rfl (by kernel_rfl) (by kernel_rfl) (by kernel_rfl) (fun _ _ _ h => h) (calm_pick rfl (.tmp 120) (.tmp 123) (.const (.bool false)) rfl true rfl rfl) ?_
  simp only [List.setIfInBounds_toArray, List.set_cons_zero, List.set_cons_succ]
  refine calm_to (i := 28) (t := 125) (v := .bool true) rfl rfl (by kernel_rfl) (by kernel_rfl) (by kernel_rfl) (fun _ _ _ h => h) (calm_move rfl (.tmp 124) (.inl rfl) rfl) ?_
  simp only [List.setIfInBounds_toArray, List.set_cons_zero, List.set_cons_succ]
  refine calm_to (i := 29) (t := 126) (v := .int .i64 kz) rfl rfl (by kernel_rfl) (by kernel_rfl) (by kernel_rfl) (fun _ _ _ h => h) (calm_move rfl (.tmp 25) (.inl rfl) rfl) ?_
  simp only [List.setIfInBounds_toArray, List.set_cons_zero, List.set_cons_succ]
  refine calm_to (i := 30) (t := 127) (v := .int .i64 kz) rfl rfl (by kernel_rfl) (by kernel_rfl) (by kernel_rfl) (fun _ _ _ h => h) (calm_move rfl (.tmp 28) (.inl rfl) rfl) ?_
  simp only [List.setIfInBounds_toArray, List.set_cons_zero, List.set_cons_succ]
  refine calm_to (i := 31) (t := 128) (v := .bool true) rfl rfl (by kernel_rfl) (by kernel_rfl) (by kernel_rfl) (fun _ _ _ h => h) (calm_of rfl (fun U _ => by go_simp)) ?_
  simp only [List.setIfInBounds_toArray, List.set_cons_zero, List.set_cons_succ]
  refine calm_to (i := 32) (t := 129) (v := .bool true) rfl rfl (by kernel_rfl) (by kernel_rfl) (by kernel_rfl) (fun _ _ _ h => h) (calm_pick rfl (.tmp 125) (.tmp 128) (.const (.bool false)) rfl true rfl rfl) ?_
  simp only [List.setIfInBounds_toArray, List.set_cons_zero, List.set_cons_succ]
  refine calm_to (i := 33) (t := 130) (v := .bool true) rfl rfl (by kernel_rfl) (by kernel_rfl) (by kernel_rfl) (fun _ _ _ h => h) (calm_move rfl (.tmp 129) (.inl rfl) rfl) ?_
  simp only [List.setIfInBounds_toArray, List.set_cons_zero, List.set_cons_succ]
  refine calm_to (i := 34) (t := 131) (v := .agg #[.slice Az nz cz, .int .i64 qz]) rfl rfl (by kernel_rfl) (by kernel_rfl) (by kernel_rfl) (fun _ _ _ h => h) (calm_dice rfl (.tmp 26) rfl _ rfl (fun U hU => K_z.out.below hU K_z.out.lt)) ?_
  simp only [List.setIfInBounds_toArray, List.set_cons_zero, List.set_cons_succ]
  refine calm_to (i := 35) (t := 132) (v := .agg #[.slice Az2 nz cz2, .int .i64 qz]) rfl rfl (by kernel_rfl) (by kernel_rfl) (by kernel_rfl) (fun _ _ _ h => h) (calm_dice rfl (.tmp 29) rfl _ rfl (fun U hU => K_z2.out.below hU K_z2.out.lt)) ?_
  simp only [List.setIfInBounds_toArray, List.set_cons_zero, List.set_cons_succ]
  refine calm_to (i := 36) (t := 133) (v := .bool true) rfl rfl (by kernel_rfl) (by kernel_rfl) (by kernel_rfl) (fun _ _ _ h => h) (calm_call2 rfl 16 (.tmp 131) (.tmp 132) #[24, 24] rfl (enters_of Try.func16 (by kernel_rfl) rfl) (.agg #[.slice Az nz cz, .int .i64 qz]) (.agg #[.slice Az2 nz cz2, .int .i64 qz]) rfl rfl (fun U hU => (rsame_yes Az Az2 nz cz cz2 qz rz U (O_z.out.below hU) (O_z2.out.below hU)).mono fun _ _ hh => ⟨hh.1, hU.trans (hh.2.mono hU.size)⟩)) ?_
  simp only [List.setIfInBounds_toArray, List.set_cons_zero, List.set_cons_succ]
  refine calm_to (i := 37) (t := 134) (v := .bool true) rfl rfl (by kernel_rfl) (by kernel_rfl) (by kernel_rfl) (fun _ _ _ h => h) (calm_pick rfl (.tmp 130) (.tmp 133) (.const (.bool false)) rfl true rfl rfl) ?_
  simp only [List.setIfInBounds_toArray, List.set_cons_zero, List.set_cons_succ]
  refine calm_to (i := 38) (t := 135) (v := .bool true) rfl rfl (by kernel_rfl) (by kernel_rfl) (by kernel_rfl) (fun _ _ _ h => h) (calm_move rfl (.tmp 134) (.inl rfl) rfl) ?_
  simp only [List.setIfInBounds_toArray, List.set_cons_zero, List.set_cons_succ]
  refine calm_to (i := 39) (t := 136) (v := .int .i64 ez) rfl rfl (by kernel_rfl) (by kernel_rfl) (by kernel_rfl) (fun _ _ _ h => h) (calm_move rfl (.tmp 27) (.inl rfl) rfl) ?_
  simp only [List.setIfInBounds_toArray, List.set_cons_zero, List.set_cons_succ]
  refine calm_to (i := 40) (t := 137) (v := .int .i64 ez) rfl rfl (by kernel_rfl) (by kernel_rfl) (by kernel_rfl) (fun _ _ _ h => h) (calm_move rfl (.tmp 30) (.inl rfl) rfl) ?_
  simp only [List.setIfInBounds_toArray, List.set_cons_zero, List.set_cons_succ]
  refine calm_to (i := 41) (t := 138) (v := .bool true) rfl rfl (by kernel_rfl) (by kernel_rfl) (by kernel_rfl) (fun _ _ _ h => h) (calm_of rfl (fun U _ => by go_simp)) ?_
  simp only [List.setIfInBounds_toArray, List.set_cons_zero, List.set_cons_succ]
  refine calm_to (i := 42) (t := 139) (v := .bool true) rfl rfl (by kernel_rfl) (by kernel_rfl) (by kernel_rfl) (fun _ _ _ h => h) (calm_pick rfl (.tmp 135) (.tmp 138) (.const (.bool false)) rfl true rfl rfl) ?_
  simp only [List.setIfInBounds_toArray, List.set_cons_zero, List.set_cons_succ]
  refine calm_to (i := 43) (t := 140) (v := .bool true) rfl rfl (by kernel_rfl) (by kernel_rfl) (by kernel_rfl) (fun _ _ _ h => h) (calm_move rfl (.tmp 139) (.inl rfl) rfl) ?_
  simp only [List.setIfInBounds_toArray, List.set_cons_zero, List.set_cons_succ]
  refine calm_to (i := 44) (t := 141) (v := .agg #[.slice A N c, .int .i64 p]) rfl rfl (by kernel_rfl) (by kernel_rfl) (by kernel_rfl) (fun _ _ _ h => h) (calm_dice rfl (.tmp 5) rfl _ rfl (fun U hU => K_d.out.below hU K_d.out.lt)) ?_
  simp only [List.setIfInBounds_toArray, List.set_cons_zero, List.set_cons_succ]
  refine calm_to (i := 45) (t := 142) (v := .int .i64 E) rfl rfl (by kernel_rfl) (by kernel_rfl) (by kernel_rfl) (fun _ _ _ h => h) (calm_call1 rfl 18 (.tmp 141) #[24] rfl (enters_of Try.func18 (by kernel_rfl) rfl) (.agg #[.slice A N c, .int .i64 p]) rfl (fun U hU => ((CE.out U).1).mono fun _ _ hh => ⟨hh.1, hU.trans (hh.2.mono hU.size)⟩)) ?_
  simp only [List.setIfInBounds_toArray, List.set_cons_zero, List.set_cons_succ]
  refine calm_to (i := 46) (t := 143) (v := .agg #[.slice A N c, .int .i64 p]) rfl rfl (by kernel_rfl) (by kernel_rfl) (by kernel_rfl) (fun _ _ _ h => h) (calm_dice rfl (.tmp 5) rfl _ rfl (fun U hU => K_d.out.below hU K_d.out.lt)) ?_
  simp only [List.setIfInBounds_toArray, List.set_cons_zero, List.set_cons_succ]
  refine calm_to (i := 47) (t := 144) (v := .int .i64 E) rfl rfl (by kernel_rfl) (by kernel_rfl) (by kernel_rfl) (fun _ _ _ h => h) (calm_call1 rfl 19 (.tmp 143) #[24] rfl (enters_of Try.func19 (by kernel_rfl) rfl) (.agg #[.slice A N c, .int .i64 p]) rfl (fun U hU => ((CE.out U).2).mono fun _ _ hh => ⟨hh.1, hU.trans (hh.2.mono hU.size)⟩)) ?_
  simp only [List.setIfInBounds_toArray, List.set_cons_zero, List.set_cons_succ]
  refine calm_to (i := 48) (t := 145) (v := .bool true) rfl rfl (by kernel_rfl) (by kernel_rfl) (by kernel_rfl) (fun _ _ _ h => h) (calm_of rfl (fun U _ => by go_simp)) ?_
  simp only [List.setIfInBounds_toArray, List.set_cons_zero, List.set_cons_succ]
  refine calm_to (i := 49) (t := 146) (v := .bool true) rfl rfl (by kernel_rfl) (by kernel_rfl) (by kernel_rfl) (fun _ _ _ h => h) (calm_pick rfl (.tmp 140) (.tmp 145) (.const (.bool false)) rfl true rfl rfl) ?_
  simp only [List.setIfInBounds_toArray, List.set_cons_zero, List.set_cons_succ]
  refine calm_to (i := 50) (t := 147) (v := .bool true) rfl rfl (by kernel_rfl) (by kernel_rfl) (by kernel_rfl) (fun _ _ _ h => h) (calm_move rfl (.tmp 146) (.inl rfl) rfl) ?_
  simp only [List.setIfInBounds_toArray, List.set_cons_zero, List.set_cons_succ]
  refine calm_to (i := 51) (t := 148) (v := .agg #[.slice A N c, .int .i64 p]) rfl rfl (by kernel_rfl) (by kernel_rfl) (by kernel_rfl) (fun _ _ _ h => h) (calm_dice rfl (.tmp 5) rfl _ rfl (fun U hU => K_d.out.below hU K_d.out.lt)) ?_
  simp only [List.setIfInBounds_toArray, List.set_cons_zero, List.set_cons_succ]
  refine calm_to (i := 52) (t := 149) (v := .agg #[.slice A1 N1 c1, .int .i64 p1]) rfl rfl (by kernel_rfl) (by kernel_rfl) (by kernel_rfl) (fun _ _ _ h => h) (calm_dice rfl (.tmp 6) rfl _ rfl (fun U hU => K_o.out.below hU K_o.out.lt)) ?_
  simp only [List.setIfInBounds_toArray, List.set_cons_zero, List.set_cons_succ]
  refine calm_to (i := 53) (t := 150) (v := .bool (dsame p p1 bs bs1)) rfl rfl (by kernel_rfl) (by kernel_rfl) (by kernel_rfl) (fun _ _ _ h => h) (calm_call2 rfl 20 (.tmp 148) (.tmp 149) #[24, 24] rfl (enters_of Try.func20 (by kernel_rfl) rfl) (.agg #[.slice A N c, .int .i64 p]) (.agg #[.slice A1 N1 c1, .int .i64 p1]) rfl rfl (fun U hU => (same_any A A1 N N1 c c1 p p1 bs bs1 U (O_l.out.below hU) (HO1.out.below hU)).mono fun _ _ hh => ⟨hh.1, hU.trans (hh.2.mono hU.size)⟩)) ?_
  simp only [List.setIfInBounds_toArray, List.set_cons_zero, List.set_cons_succ]
  refine calm_to (i := 54) (t := 151) (v := .agg #[.slice A N c, .int .i64 p]) rfl rfl (by kernel_rfl) (by kernel_rfl) (by kernel_rfl) (fun _ _ _ h => h) (calm_dice rfl (.tmp 5) rfl _ rfl (fun U hU => K_d.out.below hU K_d.out.lt)) ?_
  simp only [List.setIfInBounds_toArray, List.set_cons_zero, List.set_cons_succ]
  refine calm_to (i := 55) (t := 152) (v := .agg #[.slice A1 N1 c1, .int .i64 p1]) rfl rfl (by kernel_rfl) (by kernel_rfl) (by kernel_rfl) (fun _ _ _ h => h) (calm_dice rfl (.tmp 6) rfl _ rfl (fun U hU => K_o.out.below hU K_o.out.lt)) ?_
  simp only [List.setIfInBounds_toArray, List.set_cons_zero, List.set_cons_succ]
  refine calm_to (i := 56) (t := 153) (v := .bool (dsame p p1 bs bs1)) rfl rfl (by kernel_rfl) (by kernel_rfl) (by kernel_rfl) (fun _ _ _ h => h) (calm_call2 rfl 16 (.tmp 151) (.tmp 152) #[24, 24] rfl (enters_of Try.func16 (by kernel_rfl) rfl) (.agg #[.slice A N c, .int .i64 p]) (.agg #[.slice A1 N1 c1, .int .i64 p1]) rfl rfl (fun U hU => (rsame_any A A1 N N1 c c1 p p1 bs bs1 U (O_l.out.below hU) (HO1.out.below hU)).mono fun _ _ hh => ⟨hh.1, hU.trans (hh.2.mono hU.size)⟩)) ?_
  simp only [List.setIfInBounds_toArray, List.set_cons_zero, List.set_cons_succ]
  refine calm_to (i := 57) (t := 154) (v := .bool true) rfl rfl (by kernel_rfl) (by kernel_rfl) (by kernel_rfl) (fun _ _ _ h => h) (calm_of rfl (fun U _ => by go_simp)) ?_
  simp only [List.setIfInBounds_toArray, List.set_cons_zero, List.set_cons_succ]
  refine calm_to (i := 58) (t := 155) (v := .bool true) rfl rfl (by kernel_rfl) (by kernel_rfl) (by kernel_rfl) (fun _ _ _ h => h) (calm_pick rfl (.tmp 147) (.tmp 154) (.const (.bool false)) rfl true rfl rfl) ?_
  simp only [List.setIfInBounds_toArray, List.set_cons_zero, List.set_cons_succ]
  refine calm_to (i := 59) (t := 31) (v := .bool true) rfl rfl (by kernel_rfl) (by kernel_rfl) (by kernel_rfl) (fun _ _ _ h => h) (calm_move rfl (.tmp 155) (.inr rfl) rfl) ?_
  simp only [List.setIfInBounds_toArray, List.set_cons_zero, List.set_cons_succ]
  refine calm_done (by kernel_rfl) ?_ _
  intro U hU
  have KX := Lib.hid (K_x.out.below hU K_x.out.lt)
  have KD := Lib.hid (K_d.out.below hU K_d.out.lt)
  have PX := Lib.hid (O_px.out.below hU)
  have BU := Lib.hid (below3 BB.out hU)
  have a_x := KX.out.c0
  have b_x := KX.out.c1
  clear K_d K_o K_x K_x2 K_y K_y2 K_z K_z2 O_l O_l1 O_w O_px O_x2 O_q O_y O_q2 O_y2 O_z O_z2 HO1 CX CY CZ CE BB hU
  go_wp2
  clear a_x b_x
  go_loopw [159] (fun t wr => ∃ q : Nat, q ≤ nx ∧ t = .int .i64 q ∧ Hid (∃ l, l.length = nx ∧ OwnO 5 wr w1.heap.size Ax cx l ∧ U.grownBy wr (Value.slice Ax nx cx).ownBlock)) (fun t _ => nx - (intOf t).toNat)
  case atStart => exact ⟨0, Nat.zero_le _, rfl, Lib.hid ⟨rx, LX.out, PX.out, World.grownBy.refl _ _⟩⟩
  case round =>
    clear PX
    obtain ⟨q, hq, rfl, HR⟩ := hrel
    obtain ⟨l, hl, hp, hg⟩ := HR.out
    by_cases hlt : q < nx
    · obtain ⟨g, rfl, -, -, -, -⟩ := hp.form (by omega)
      have kx1 := KX.out.grown hg (fun e => by have := (HXL.out _ e.symm).2; omega)
      have a_x := kx1.c0
      have b_x := kx1.c1
      obtain ⟨c1, f1⟩ := hp.at_ (j := q) (by omega)
      have hoc := hp.octs.oct q
      have hE : ∀ v, Oct v → Hid (∃ l, l.length = nx ∧ OwnO 5 (wr.setCell ⟨g, q, none⟩ (.int .u8 v)) w1.heap.size (some ⟨g, 0, none⟩) cx l ∧ U.grownBy (wr.setCell ⟨g, q, none⟩ (.int .u8 v)) (Value.slice (some ⟨g, 0, none⟩) nx cx).ownBlock) := fun v hv => Lib.hid ⟨l.set q v, by rw [List.length_set]; exact hl, hp.set_ q hv, hg.trans (grown_set (g := g) _)⟩
      generalize nth l q = x at c1 hoc
      unfold Oct at hoc
      by_cases hx : x = 255
      · subst hx
        have hE := hE 0 (by unfold Oct; omega)
        clear hp hg kx1 hoc HR
        go_wp2
        go_roundw
        case rel => exact ⟨q + 1, by omega, by go_num, hE⟩
        case measure => simp [intOf]; omega
      · have hE := hE (x + 1) (by unfold Oct; omega)
        have hx1 : x + 1 ≤ 255 := by omega
        have hx0 : 0 ≤ x := hoc.1
        clear hp hg kx1 hoc HR
        go_wp2
        go_roundw
        case rel => exact ⟨q + 1, by omega, by go_num, hE⟩
        case measure => simp [intOf]; omega
    · have kd := KD.out.grown hg (fun e => by have := (HXL.out _ e.symm).1; have := HW1.out; omega)
      have a_d := kd.c0
      have b_d := kd.c1
      have BW := Lib.hid (BU.out.grown hg BU.out.size (fun j hj => by have := (HXL.out _ hj).1; have := HW1.out; omega))
      have cv := (HL.out.below BW.out).convert (P := Try.prog) c 22 5 9 Try.underlying22 Try.underlying5 Try.underlying9
      clear kd hp hg HR
      go_wp2
      go_ret
      exact ⟨rfl, BW.out⟩

theorem does_any (A A1 B : Option Addr) (N c N1 c1 k d : Nat) (p p1 m n : Int) (bs bs1 ws : List Int) (w : World) (h0 : N ≤ 9223372036854775807) (hl : N ≤ 140737488351232 → Octs w A N bs) (h1 : N1 ≤ 9223372036854775807) (hl1 : N1 ≤ 140737488351232 → Octs w A1 N1 bs1) (hw : Ints w B k ws) :
    Calls Try.prog 3 #[.agg #[.slice A N c, .int .i64 p], .agg #[.slice A1 N1 c1, .int .i64 p1], .int .i64 m, .int .i64 n, .slice B k d] w (TrueAns w) := by
  by_cases h : 1000 < N ∨ 1000 < N1 ∨ 400 < k
  · exact does_big A A1 B N c N1 c1 k d p p1 m n w h0 h1 hw.2.1 h
  · exact does_main A A1 B N c N1 c1 k d p p1 m n bs bs1 ws w (hl (by omega)) (hl1 (by omega)) hw (by omega) (by omega) (by omega)

end Go.Proofs.Ytllanhboaoedmaa

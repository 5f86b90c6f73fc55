/-
  Layer 13: the laws' helpers: the chapter's example, and a task that runs.
-/
import Derived.Test.YtlbmlhcphoiaeaaDoorSte
import Derived.Test.YtlbmlhcphoiaeaaDoorTke
namespace Go.Proofs.YtlbmlhcphoiaeaaDoor
open Go.RowKit

theorem newR_live : newR 1 0 0 = (0, ⟨1, 0, 0, 0, 0, -1, -1, -1, -1, 1, 0⟩) := rfl
theorem moveR_live : moveR ⟨1, 0, 0, 0, 0, -1, -1, -1, -1, 1, 0⟩ 2 = (0, ⟨1, 0, 0, 0, 0, -1, -1, -1, -1, 2, 0⟩) := rfl
theorem okT_fresh {id st : Int} (h : 0 ≤ id) (q : st = 1 ∨ st = 2) : okT ⟨id, 0, 0, 0, 0, -1, -1, -1, -1, st, 0⟩ := by
  refine ⟨⟨h, ⟨?_, ?_⟩, ⟨?_, ?_⟩, ⟨?_, ?_⟩, ⟨?_, ?_⟩, ⟨?_, ?_⟩, ?_⟩, ?_, ?_, ?_, ?_⟩
  all_goals dsimp only
  all_goals first | decide | (rcases q with rfl | rfl <;> decide)
theorem newR_fresh {id : Int} (h : 0 ≤ id) : newR id 0 0 = (0, ⟨id, 0, 0, 0, 0, -1, -1, -1, -1, 1, 0⟩) := if_pos (okT_fresh h (.inl rfl))
theorem moveR_fresh {id : Int} (h : 0 ≤ id) : moveR ⟨id, 0, 0, 0, 0, -1, -1, -1, -1, 1, 0⟩ 2 = (0, ⟨id, 0, 0, 0, 0, -1, -1, -1, -1, 2, 0⟩) :=
  moveR_4 (okT_fresh h (.inl rfl)) (by decide) (by dsimp only; decide)
theorem okP_live : okP [(1, 3, 0), (3, 0, 0)] := ⟨by decide, by decide, fun j hj => by
  have : j = 0 ∨ j = 1 := by simp at hj; omega
  rcases this with rfl | rfl <;> decide⟩
theorem live_1 : sliceR ⟨1, 0, 0, 0, 0, -1, -1, -1, -1, 2, 0⟩ [(1, 3, 0), (3, 0, 0)] 2 = (⟨1, 0, 0, 0, 2, -1, -1, -1, -1, 2, 2⟩, zI, 2, 0) := by
  have h : okF ⟨1, 0, 0, 0, 0, -1, -1, -1, -1, 2, 0⟩ [(1, 3, 0), (3, 0, 0)] := ⟨by decide, okP_live, by decide, .inl rfl⟩
  exact (sliceR_yes (m := 2) h (by decide) (by decide)).trans rfl
theorem live_2 : sliceR ⟨1, 0, 0, 0, 2, -1, -1, -1, -1, 2, 2⟩ [(1, 3, 0), (3, 0, 0)] 2 = (⟨1, 0, 0, 2, 0, -1, -1, -1, -1, 2, 4⟩, (3, 0, 0), 2, 0) := by
  have h : okF ⟨1, 0, 0, 0, 2, -1, -1, -1, -1, 2, 2⟩ [(1, 3, 0), (3, 0, 0)] := ⟨by decide, okP_live, by decide, .inr ⟨by decide, by decide, by decide⟩⟩
  exact (sliceR_yes (m := 2) h (by decide) (by decide)).trans rfl
theorem prog_live {W : World} {g : Nat} {t : TypeId} (h : Bk W g t #[.int .i64 1, .int .i64 3, .int .i64 0, .int .i64 3, .int .i64 0, .int .i64 0]) : Prog W (some ⟨g, 0, none⟩) 2 2 [(1, 3, 0), (3, 0, 0)] :=
  ⟨rfl, by omega, fun x hx => by
    simp only [List.mem_cons, List.not_mem_nil, or_false] at hx
    rcases hx with rfl | rfl <;> (unfold FitI Fit; decide), fun _ => ⟨g, 0, rfl, h.lt, fun j hj => by
    have : j = 0 ∨ j = 1 := by omega
    rcases this with rfl | rfl
    · exact ⟨h.cell 0, h.cell 1, h.cell 2⟩
    · exact ⟨h.cell 3, h.cell 4, h.cell 5⟩⟩⟩

set_option maxRecDepth 100000 in
set_option maxHeartbeats 4000000 in
theorem live_any (w : World) (hF : Fol w) : Calls Tryd.prog 9 #[] w (RetB (.bool true) w) := by
  have SN := Lib.hid (fun (W : World) => newR_live ▸ new_any 1 0 0 W)
  have SM := Lib.hid (fun (W : World) (h : Fol W) => moveR_live ▸ move_any ⟨1, 0, 0, 0, 0, -1, -1, -1, -1, 1, 0⟩ 2 W h)
  have S1 := Lib.hid (fun (A : Option Addr) (W : World) (h : Prog W A 2 2 [(1, 3, 0), (3, 0, 0)]) => live_1 ▸ slice_any _ A 2 2 _ 2 W h)
  have S2 := Lib.hid (fun (A : Option Addr) (W : World) (h : Prog W A 2 2 [(1, 3, 0), (3, 0, 0)]) => live_2 ▸ slice_any _ A 2 2 _ 2 W h)
  unfold tc vI at S1 S2
  unfold tc at SN SM
  unfold zI at S1
  dsimp only at SN SM S1 S2
  have HF := Lib.hid hF
  obtain ⟨kb0, hb0⟩ := lies1 w #[.int .i64 1, .int .i64 3, .int .i64 0, .int .i64 3, .int .i64 0, .int .i64 0] 37
  obtain ⟨V, hV⟩ : ∃ V, w.alloc (.cells #[.int .i64 1, .int .i64 3, .int .i64 0, .int .i64 3, .int .i64 0, .int .i64 0] 37) = V := ⟨_, rfl⟩
  rw [hV] at hb0 kb0
  have HV := Lib.hid hV
  have BB := Lib.hid hb0
  have Kp := Lib.hid kb0
  have HBp : Hid (w.heap.size ≤ w.heap.size) := Lib.hid (by omega)
  clear hV hb0 kb0
  go_enter Tryd.func9, Tryd.ntmps9
  go_upto_region 2 with fail
  rw [HV.out]
  clear HV
  go_wp2_with fail
  refine (SN.out _).mono ?_
  rintro e U1 ⟨rfl, bU1⟩
  replace BB := Lib.hid (below3 BB.out bU1)
  replace Kp := Lib.hid (Kp.out.below bU1 Kp.out.lt)
  clear bU1
  have kn := Bk.new U1 24 #[.int .i64 1, .int .i64 0, .int .i64 0, .int .i64 0, .int .i64 0, .int .i64 (-1), .int .i64 (-1), .int .i64 (-1), .int .i64 (-1), .int .i64 1, .int .i64 0]
  have ba := (Below.refl U1.heap.size U1).alloc (Nat.le_refl _) (.cells #[.int .i64 1, .int .i64 0, .int .i64 0, .int .i64 0, .int .i64 0, .int .i64 (-1), .int .i64 (-1), .int .i64 (-1), .int .i64 (-1), .int .i64 1, .int .i64 0] 24)
  have hgb := BB.out.size
  have np_t := Nat.ne_of_lt Kp.out.lt
  replace BB := Lib.hid (below3 BB.out ba)
  replace Kp := Lib.hid (Kp.out.below ba Kp.out.lt)
  obtain ⟨gt, hg⟩ : ∃ g, U1.heap.size = g := ⟨_, rfl⟩
  obtain ⟨V2, hW⟩ : ∃ W, U1.alloc (.cells #[.int .i64 1, .int .i64 0, .int .i64 0, .int .i64 0, .int .i64 0, .int .i64 (-1), .int .i64 (-1), .int .i64 (-1), .int .i64 (-1), .int .i64 1, .int .i64 0] 24) = W := ⟨_, rfl⟩
  have Kt := Lib.hid kn
  rw [hW] at BB Kt Kp
  rw [hg] at Kt hgb np_t
  have HGt := Lib.hid hg
  have HWt := Lib.hid hW
  have HBt := Lib.hid hgb
  have Np_t := Lib.hid np_t
  clear hW hg kn ba hgb np_t
  go_upto_region 3 with fail
  rw [HWt.out]
  try rw [HGt.out]
  clear HWt HGt
  obtain ⟨qt_0, qt_1, qt_2, qt_3, qt_4, qt_5, qt_6, qt_7, qt_8, qt_9, qt_10⟩ := Kt.out.c11
  have lt := Kt.out.lt
  go_wp2_with fail
  refine (SM.out _ (HF.out.le BB.out)).mono ?_
  rintro e U3 ⟨rfl, bU3⟩
  clear qt_0 qt_1 qt_2 qt_3 qt_4 qt_5 qt_6 qt_7 qt_8 qt_9 qt_10 lt
  replace BB := Lib.hid (below3 BB.out bU3)
  replace Kp := Lib.hid (Kp.out.below bU3 Kp.out.lt)
  replace Kt := Lib.hid (Kt.out.below bU3 Kt.out.lt)
  clear bU3
  obtain ⟨qt_0, qt_1, qt_2, qt_3, qt_4, qt_5, qt_6, qt_7, qt_8, qt_9, qt_10⟩ := Kt.out.c11
  have lt := Kt.out.lt
  obtain ⟨ft_0, ft_1, ft_2, ft_3, ft_4, ft_5, ft_6, ft_7, ft_8, ft_9, ft_10⟩ := Kt.out.f11
  have x0 := bk_set11 Kt.out (.int .i64 1) (.int .i64 0) (.int .i64 0) (.int .i64 0) (.int .i64 0) (.int .i64 (-1)) (.int .i64 (-1)) (.int .i64 (-1)) (.int .i64 (-1)) (.int .i64 2) (.int .i64 0)
  have xb := below_set11 (g := gt) BB.out HBt.out (.int .i64 1) (.int .i64 0) (.int .i64 0) (.int .i64 0) (.int .i64 0) (.int .i64 (-1)) (.int .i64 (-1)) (.int .i64 (-1)) (.int .i64 (-1)) (.int .i64 2) (.int .i64 0)
  have x_p := far_set11 Kp.out Np_t.out (.int .i64 1) (.int .i64 0) (.int .i64 0) (.int .i64 0) (.int .i64 0) (.int .i64 (-1)) (.int .i64 (-1)) (.int .i64 (-1)) (.int .i64 (-1)) (.int .i64 2) (.int .i64 0)
  obtain ⟨S4, hX⟩ : ∃ X, set11 U3 gt (.int .i64 1) (.int .i64 0) (.int .i64 0) (.int .i64 0) (.int .i64 0) (.int .i64 (-1)) (.int .i64 (-1)) (.int .i64 (-1)) (.int .i64 (-1)) (.int .i64 2) (.int .i64 0) = X := ⟨_, rfl⟩
  have hs : S4.heap.size = U3.heap.size := by rw [← hX]; unfold set11; simp
  rw [hX] at x0 xb x_p
  unfold set11 at hX
  have HX := Lib.hid hX
  have HS := Lib.hid hs
  replace Kt := Lib.hid x0
  replace BB := Lib.hid xb
  replace Kp := Lib.hid x_p
  clear hX hs x0 xb x_p
  go_upto_region 4 with fail
  rw [HX.out]
  clear HX HS
  clear qt_0 qt_1 qt_2 qt_3 qt_4 qt_5 qt_6 qt_7 qt_8 qt_9 qt_10 lt ft_0 ft_1 ft_2 ft_3 ft_4 ft_5 ft_6 ft_7 ft_8 ft_9 ft_10
  obtain ⟨qt_0, qt_1, qt_2, qt_3, qt_4, qt_5, qt_6, qt_7, qt_8, qt_9, qt_10⟩ := Kt.out.c11
  have lt := Kt.out.lt
  go_wp2_with fail
  refine (S1.out _ _ (prog_live Kp.out)).mono ?_
  rintro e U5 ⟨rfl, bU5⟩
  clear qt_0 qt_1 qt_2 qt_3 qt_4 qt_5 qt_6 qt_7 qt_8 qt_9 qt_10 lt
  replace BB := Lib.hid (below3 BB.out bU5)
  replace Kp := Lib.hid (Kp.out.below bU5 Kp.out.lt)
  replace Kt := Lib.hid (Kt.out.below bU5 Kt.out.lt)
  clear bU5
  obtain ⟨qt_0, qt_1, qt_2, qt_3, qt_4, qt_5, qt_6, qt_7, qt_8, qt_9, qt_10⟩ := Kt.out.c11
  have lt := Kt.out.lt
  obtain ⟨ft_0, ft_1, ft_2, ft_3, ft_4, ft_5, ft_6, ft_7, ft_8, ft_9, ft_10⟩ := Kt.out.f11
  have x0 := bk_set11 Kt.out (.int .i64 1) (.int .i64 0) (.int .i64 0) (.int .i64 0) (.int .i64 2) (.int .i64 (-1)) (.int .i64 (-1)) (.int .i64 (-1)) (.int .i64 (-1)) (.int .i64 2) (.int .i64 2)
  have xb := below_set11 (g := gt) BB.out HBt.out (.int .i64 1) (.int .i64 0) (.int .i64 0) (.int .i64 0) (.int .i64 2) (.int .i64 (-1)) (.int .i64 (-1)) (.int .i64 (-1)) (.int .i64 (-1)) (.int .i64 2) (.int .i64 2)
  have x_p := far_set11 Kp.out Np_t.out (.int .i64 1) (.int .i64 0) (.int .i64 0) (.int .i64 0) (.int .i64 2) (.int .i64 (-1)) (.int .i64 (-1)) (.int .i64 (-1)) (.int .i64 (-1)) (.int .i64 2) (.int .i64 2)
  obtain ⟨S6, hX⟩ : ∃ X, set11 U5 gt (.int .i64 1) (.int .i64 0) (.int .i64 0) (.int .i64 0) (.int .i64 2) (.int .i64 (-1)) (.int .i64 (-1)) (.int .i64 (-1)) (.int .i64 (-1)) (.int .i64 2) (.int .i64 2) = X := ⟨_, rfl⟩
  have hs : S6.heap.size = U5.heap.size := by rw [← hX]; unfold set11; simp
  rw [hX] at x0 xb x_p
  unfold set11 at hX
  have HX := Lib.hid hX
  have HS := Lib.hid hs
  replace Kt := Lib.hid x0
  replace BB := Lib.hid xb
  replace Kp := Lib.hid x_p
  clear hX hs x0 xb x_p
  have kn := Bk.new S6 28 #[.int .i64 0, .int .i64 0, .int .i64 0]
  have ba := (Below.refl S6.heap.size S6).alloc (Nat.le_refl _) (.cells #[.int .i64 0, .int .i64 0, .int .i64 0] 28)
  have hgb := BB.out.size
  have np_y := Nat.ne_of_lt Kp.out.lt
  have nt_y := Nat.ne_of_lt Kt.out.lt
  replace BB := Lib.hid (below3 BB.out ba)
  replace Kp := Lib.hid (Kp.out.below ba Kp.out.lt)
  replace Kt := Lib.hid (Kt.out.below ba Kt.out.lt)
  obtain ⟨gy, hg⟩ : ∃ g, S6.heap.size = g := ⟨_, rfl⟩
  obtain ⟨V7, hW⟩ : ∃ W, S6.alloc (.cells #[.int .i64 0, .int .i64 0, .int .i64 0] 28) = W := ⟨_, rfl⟩
  have Ky := Lib.hid kn
  rw [hW] at BB Ky Kp Kt
  rw [hg] at Ky hgb np_y nt_y
  have HGy := Lib.hid hg
  have HWy := Lib.hid hW
  have HBy := Lib.hid hgb
  have Np_y := Lib.hid np_y
  have Nt_y := Lib.hid nt_y
  clear hW hg kn ba hgb np_y nt_y
  replace HGy := Lib.hid (HS.out.symm.trans HGy.out)
  go_upto_region 5 with fail
  rw [HX.out]
  rw [HWy.out]
  try rw [HGy.out]
  clear HX HS HWy HGy
  clear qt_0 qt_1 qt_2 qt_3 qt_4 qt_5 qt_6 qt_7 qt_8 qt_9 qt_10 lt ft_0 ft_1 ft_2 ft_3 ft_4 ft_5 ft_6 ft_7 ft_8 ft_9 ft_10
  obtain ⟨qt_0, qt_1, qt_2, qt_3, qt_4, qt_5, qt_6, qt_7, qt_8, qt_9, qt_10⟩ := Kt.out.c11
  have lt := Kt.out.lt
  go_wp2_with fail
  refine (S2.out _ _ (prog_live Kp.out)).mono ?_
  rintro e U8 ⟨rfl, bU8⟩
  clear qt_0 qt_1 qt_2 qt_3 qt_4 qt_5 qt_6 qt_7 qt_8 qt_9 qt_10 lt
  replace BB := Lib.hid (below3 BB.out bU8)
  replace Kp := Lib.hid (Kp.out.below bU8 Kp.out.lt)
  replace Kt := Lib.hid (Kt.out.below bU8 Kt.out.lt)
  replace Ky := Lib.hid (Ky.out.below bU8 Ky.out.lt)
  clear bU8
  obtain ⟨qt_0, qt_1, qt_2, qt_3, qt_4, qt_5, qt_6, qt_7, qt_8, qt_9, qt_10⟩ := Kt.out.c11
  have lt := Kt.out.lt
  obtain ⟨ft_0, ft_1, ft_2, ft_3, ft_4, ft_5, ft_6, ft_7, ft_8, ft_9, ft_10⟩ := Kt.out.f11
  have x0 := bk_set11 Kt.out (.int .i64 1) (.int .i64 0) (.int .i64 0) (.int .i64 2) (.int .i64 0) (.int .i64 (-1)) (.int .i64 (-1)) (.int .i64 (-1)) (.int .i64 (-1)) (.int .i64 2) (.int .i64 4)
  have xb := below_set11 (g := gt) BB.out HBt.out (.int .i64 1) (.int .i64 0) (.int .i64 0) (.int .i64 2) (.int .i64 0) (.int .i64 (-1)) (.int .i64 (-1)) (.int .i64 (-1)) (.int .i64 (-1)) (.int .i64 2) (.int .i64 4)
  have x_p := far_set11 Kp.out Np_t.out (.int .i64 1) (.int .i64 0) (.int .i64 0) (.int .i64 2) (.int .i64 0) (.int .i64 (-1)) (.int .i64 (-1)) (.int .i64 (-1)) (.int .i64 (-1)) (.int .i64 2) (.int .i64 4)
  have x_y := far_set11 Ky.out Nt_y.out.symm (.int .i64 1) (.int .i64 0) (.int .i64 0) (.int .i64 2) (.int .i64 0) (.int .i64 (-1)) (.int .i64 (-1)) (.int .i64 (-1)) (.int .i64 (-1)) (.int .i64 2) (.int .i64 4)
  obtain ⟨S9, hX⟩ : ∃ X, set11 U8 gt (.int .i64 1) (.int .i64 0) (.int .i64 0) (.int .i64 2) (.int .i64 0) (.int .i64 (-1)) (.int .i64 (-1)) (.int .i64 (-1)) (.int .i64 (-1)) (.int .i64 2) (.int .i64 4) = X := ⟨_, rfl⟩
  have hs : S9.heap.size = U8.heap.size := by rw [← hX]; unfold set11; simp
  rw [hX] at x0 xb x_p x_y
  unfold set11 at hX
  have HX := Lib.hid hX
  have HS := Lib.hid hs
  replace Kt := Lib.hid x0
  replace BB := Lib.hid xb
  replace Kp := Lib.hid x_p
  replace Ky := Lib.hid x_y
  clear hX hs x0 xb x_p x_y
  have kn := Bk.new S9 28 #[.int .i64 3, .int .i64 0, .int .i64 0]
  have ba := (Below.refl S9.heap.size S9).alloc (Nat.le_refl _) (.cells #[.int .i64 3, .int .i64 0, .int .i64 0] 28)
  have hgb := BB.out.size
  have np_x := Nat.ne_of_lt Kp.out.lt
  have nt_x := Nat.ne_of_lt Kt.out.lt
  have ny_x := Nat.ne_of_lt Ky.out.lt
  replace BB := Lib.hid (below3 BB.out ba)
  replace Kp := Lib.hid (Kp.out.below ba Kp.out.lt)
  replace Kt := Lib.hid (Kt.out.below ba Kt.out.lt)
  replace Ky := Lib.hid (Ky.out.below ba Ky.out.lt)
  obtain ⟨gx, hg⟩ : ∃ g, S9.heap.size = g := ⟨_, rfl⟩
  obtain ⟨V10, hW⟩ : ∃ W, S9.alloc (.cells #[.int .i64 3, .int .i64 0, .int .i64 0] 28) = W := ⟨_, rfl⟩
  have Kx := Lib.hid kn
  rw [hW] at BB Kx Kp Kt Ky
  rw [hg] at Kx hgb np_x nt_x ny_x
  have HGx := Lib.hid hg
  have HWx := Lib.hid hW
  have HBx := Lib.hid hgb
  have Np_x := Lib.hid np_x
  have Nt_x := Lib.hid nt_x
  have Ny_x := Lib.hid ny_x
  clear hW hg kn ba hgb np_x nt_x ny_x
  replace HGx := Lib.hid (HS.out.symm.trans HGx.out)
  go_upto_region 6 with fail
  rw [HX.out]
  rw [HWx.out]
  try rw [HGx.out]
  clear HX HS HWx HGx
  clear qt_0 qt_1 qt_2 qt_3 qt_4 qt_5 qt_6 qt_7 qt_8 qt_9 qt_10 lt ft_0 ft_1 ft_2 ft_3 ft_4 ft_5 ft_6 ft_7 ft_8 ft_9 ft_10
  obtain ⟨qt_0, qt_1, qt_2, qt_3, qt_4, qt_5, qt_6, qt_7, qt_8, qt_9, qt_10⟩ := Kt.out.c11
  have lt := Kt.out.lt
  obtain ⟨qx_0, qx_1, qx_2⟩ := Kx.out.c3
  have lx := Kx.out.lt
  go_wp2
  go_ret
  exact ⟨rfl, BB.out⟩

set_option maxRecDepth 100000 in
set_option maxHeartbeats 4000000 in
theorem fresh_any (id : Int) (h : 0 ≤ id) (w : World) (hF : Fol w) : Calls Tryd.prog 18 #[.int .i64 id] w (RetB (.tuple #[.agg (tc ⟨id, 0, 0, 0, 0, -1, -1, -1, -1, 2, 0⟩), .bool true]) w) := by
  have SN := Lib.hid (fun (W : World) => newR_fresh h ▸ new_any id 0 0 W)
  have SM := Lib.hid (fun (W : World) (q : Fol W) => moveR_fresh h ▸ move_any ⟨id, 0, 0, 0, 0, -1, -1, -1, -1, 1, 0⟩ 2 W q)
  unfold tc at SN SM ⊢
  dsimp only at SN SM ⊢
  have HF := Lib.hid hF
  obtain ⟨kb0, hb0⟩ := lies1 w #[.int .i64 0, .int .i64 0, .int .i64 0, .int .i64 0, .int .i64 0, .int .i64 0, .int .i64 0, .int .i64 0, .int .i64 0, .int .i64 0, .int .i64 0] 24
  obtain ⟨V, hV⟩ : ∃ V, w.alloc (.cells #[.int .i64 0, .int .i64 0, .int .i64 0, .int .i64 0, .int .i64 0, .int .i64 0, .int .i64 0, .int .i64 0, .int .i64 0, .int .i64 0, .int .i64 0] 24) = V := ⟨_, rfl⟩
  rw [hV] at hb0 kb0
  have HV := Lib.hid hV
  have BB := Lib.hid hb0
  have Kr := Lib.hid kb0
  have HBr : Hid (w.heap.size ≤ w.heap.size) := Lib.hid (by omega)
  clear hV hb0 kb0
  go_enter Tryd.func18, Tryd.ntmps18
  go_upto_region 1 with fail
  rw [HV.out]
  clear HV
  go_wp2_with fail
  refine (SN.out _).mono ?_
  rintro e U1 ⟨rfl, bU1⟩
  replace BB := Lib.hid (below3 BB.out bU1)
  replace Kr := Lib.hid (Kr.out.below bU1 Kr.out.lt)
  clear bU1
  have kn := Bk.new U1 24 #[.int .i64 id, .int .i64 0, .int .i64 0, .int .i64 0, .int .i64 0, .int .i64 (-1), .int .i64 (-1), .int .i64 (-1), .int .i64 (-1), .int .i64 1, .int .i64 0]
  have ba := (Below.refl U1.heap.size U1).alloc (Nat.le_refl _) (.cells #[.int .i64 id, .int .i64 0, .int .i64 0, .int .i64 0, .int .i64 0, .int .i64 (-1), .int .i64 (-1), .int .i64 (-1), .int .i64 (-1), .int .i64 1, .int .i64 0] 24)
  have hgb := BB.out.size
  have nr_t := Nat.ne_of_lt Kr.out.lt
  replace BB := Lib.hid (below3 BB.out ba)
  replace Kr := Lib.hid (Kr.out.below ba Kr.out.lt)
  obtain ⟨gt, hg⟩ : ∃ g, U1.heap.size = g := ⟨_, rfl⟩
  obtain ⟨V2, hW⟩ : ∃ W, U1.alloc (.cells #[.int .i64 id, .int .i64 0, .int .i64 0, .int .i64 0, .int .i64 0, .int .i64 (-1), .int .i64 (-1), .int .i64 (-1), .int .i64 (-1), .int .i64 1, .int .i64 0] 24) = W := ⟨_, rfl⟩
  have Kt := Lib.hid kn
  rw [hW] at BB Kt Kr
  rw [hg] at Kt hgb nr_t
  have HGt := Lib.hid hg
  have HWt := Lib.hid hW
  have HBt := Lib.hid hgb
  have Nr_t := Lib.hid nr_t
  clear hW hg kn ba hgb nr_t
  go_upto_region 2 with fail
  rw [HWt.out]
  try rw [HGt.out]
  clear HWt HGt
  obtain ⟨qt_0, qt_1, qt_2, qt_3, qt_4, qt_5, qt_6, qt_7, qt_8, qt_9, qt_10⟩ := Kt.out.c11
  have lt := Kt.out.lt
  go_wp2_with fail
  refine (SM.out _ (HF.out.le BB.out)).mono ?_
  rintro e U3 ⟨rfl, bU3⟩
  clear qt_0 qt_1 qt_2 qt_3 qt_4 qt_5 qt_6 qt_7 qt_8 qt_9 qt_10 lt
  replace BB := Lib.hid (below3 BB.out bU3)
  replace Kr := Lib.hid (Kr.out.below bU3 Kr.out.lt)
  replace Kt := Lib.hid (Kt.out.below bU3 Kt.out.lt)
  clear bU3
  obtain ⟨qt_0, qt_1, qt_2, qt_3, qt_4, qt_5, qt_6, qt_7, qt_8, qt_9, qt_10⟩ := Kt.out.c11
  have lt := Kt.out.lt
  obtain ⟨ft_0, ft_1, ft_2, ft_3, ft_4, ft_5, ft_6, ft_7, ft_8, ft_9, ft_10⟩ := Kt.out.f11
  have x0 := bk_set11 Kt.out (.int .i64 id) (.int .i64 0) (.int .i64 0) (.int .i64 0) (.int .i64 0) (.int .i64 (-1)) (.int .i64 (-1)) (.int .i64 (-1)) (.int .i64 (-1)) (.int .i64 2) (.int .i64 0)
  have xb := below_set11 (g := gt) BB.out HBt.out (.int .i64 id) (.int .i64 0) (.int .i64 0) (.int .i64 0) (.int .i64 0) (.int .i64 (-1)) (.int .i64 (-1)) (.int .i64 (-1)) (.int .i64 (-1)) (.int .i64 2) (.int .i64 0)
  have x_r := far_set11 Kr.out Nr_t.out (.int .i64 id) (.int .i64 0) (.int .i64 0) (.int .i64 0) (.int .i64 0) (.int .i64 (-1)) (.int .i64 (-1)) (.int .i64 (-1)) (.int .i64 (-1)) (.int .i64 2) (.int .i64 0)
  obtain ⟨S4, hX⟩ : ∃ X, set11 U3 gt (.int .i64 id) (.int .i64 0) (.int .i64 0) (.int .i64 0) (.int .i64 0) (.int .i64 (-1)) (.int .i64 (-1)) (.int .i64 (-1)) (.int .i64 (-1)) (.int .i64 2) (.int .i64 0) = X := ⟨_, rfl⟩
  have hs : S4.heap.size = U3.heap.size := by rw [← hX]; unfold set11; simp
  rw [hX] at x0 xb x_r
  unfold set11 at hX
  have HX := Lib.hid hX
  have HS := Lib.hid hs
  replace Kt := Lib.hid x0
  replace BB := Lib.hid xb
  replace Kr := Lib.hid x_r
  clear hX hs x0 xb x_r
  go_upto_region 3 with fail
  rw [HX.out]
  clear HX HS
  clear qt_0 qt_1 qt_2 qt_3 qt_4 qt_5 qt_6 qt_7 qt_8 qt_9 qt_10 lt ft_0 ft_1 ft_2 ft_3 ft_4 ft_5 ft_6 ft_7 ft_8 ft_9 ft_10
  obtain ⟨qt_0, qt_1, qt_2, qt_3, qt_4, qt_5, qt_6, qt_7, qt_8, qt_9, qt_10⟩ := Kt.out.c11
  have lt := Kt.out.lt
  have pr_t := Nr_t.out
  obtain ⟨qr_0, qr_1, qr_2, qr_3, qr_4, qr_5, qr_6, qr_7, qr_8, qr_9, qr_10⟩ := Kr.out.c11
  have lr := Kr.out.lt
  obtain ⟨fr_0, fr_1, fr_2, fr_3, fr_4, fr_5, fr_6, fr_7, fr_8, fr_9, fr_10⟩ := Kr.out.f11
  have B_r := Lib.hid (below_set11 (g := w.heap.size) BB.out HBr.out (.int .i64 id) (.int .i64 0) (.int .i64 0) (.int .i64 0) (.int .i64 0) (.int .i64 (-1)) (.int .i64 (-1)) (.int .i64 (-1)) (.int .i64 (-1)) (.int .i64 2) (.int .i64 0))
  have S_r := Lib.hid (bk_set11 Kr.out (.int .i64 id) (.int .i64 0) (.int .i64 0) (.int .i64 0) (.int .i64 0) (.int .i64 (-1)) (.int .i64 (-1)) (.int .i64 (-1)) (.int .i64 (-1)) (.int .i64 2) (.int .i64 0))
  unfold set11 at B_r
  go_wp2
  obtain ⟨rr_0, rr_1, rr_2, rr_3, rr_4, rr_5, rr_6, rr_7, rr_8, rr_9, rr_10⟩ := Bk.c11 (S_r.out)
  unfold set11 at rr_0 rr_1 rr_2 rr_3 rr_4 rr_5 rr_6 rr_7 rr_8 rr_9 rr_10
  exact bodyPost_ret (v := .tuple #[.agg #[.int .i64 id, .int .i64 0, .int .i64 0, .int .i64 0, .int .i64 0, .int .i64 (-1), .int .i64 (-1), .int .i64 (-1), .int .i64 (-1), .int .i64 2, .int .i64 0], .bool true]) (by simp [results, Tryd.results18, go_sem, rr_0, rr_1, rr_2, rr_3, rr_4, rr_5, rr_6, rr_7, rr_8, rr_9, rr_10]) rfl ⟨rfl, B_r.out⟩

end Go.Proofs.YtlbmlhcphoiaeaaDoor

import Derived.Test.YtfhlligcbpnkkaaDoorMg12

/-
  Layer 18, the program: a unit of a task, and what one more event does to it.
-/
namespace Go.Proofs.YtfhlligcbpnkkaaDoor
open Go.RowKit

set_option maxHeartbeats 4000000 in
theorem do_tp (b : Nat) (T : Tk) (L : I3) (op : Int) (w : World) (A : Option Addr) (n c : Nat) (p : List I3) (B : Nat) (hBb : B ≤ b) (hBs : B ≤ w.heap.size) (hP : ∀ w1, Below B w w1 → Prog w1 A n c p) (hF : Fol w) (hb0 : b ≠ 0) (hK : Bk w b 58 (tkc T L)) (hok : okT T) :
    Calls Tryd.prog 50 #[.pointer (some ⟨b, 0, none⟩), .slice A n c, .int .i64 op] w (StP b (doA p T L op) L w) := by
  obtain ⟨id, tn, pg, pc, un, k0, k1, k2, k3, st, rn⟩ := T
  obtain ⟨lk, li, la⟩ := L
  have KT := Lib.hid hK
  have HFo := Lib.hid hF
  have HB0 := Lib.hid hb0
  unfold tkc at KT
  dsimp only at KT
  have HP := Lib.hid hP
  have HBb := Lib.hid hBb
  have HBs := Lib.hid hBs
  clear hP hBb hBs
  clear hK hF hb0
  obtain ⟨⟨⟨io, ia, ib⟩, ne⟩, hnr⟩ : ∃ r, nextR (⟨id, tn, pg, pc, un, k0, k1, k2, k3, st, rn⟩ : Tk) p = r := ⟨_, rfl⟩
  obtain ⟨⟨⟨a0, a1, a2, a3, a4, a5, a6, a7, a8, a9, a10⟩, ⟨fo, fa, fb⟩, de⟩, hdr⟩ : ∃ r, doR (⟨id, tn, pg, pc, un, k0, k1, k2, k3, 2, rn⟩ : Tk) p = r := ⟨_, rfl⟩
  have HNR := Lib.hid hnr
  have HDR := Lib.hid hdr
  by_cases he : ne = 0
  · by_cases ho : io = op
    · by_cases hx : lk = 2 ∧ la = 9
      · have HNO : Hid (doA p ⟨id, tn, pg, pc, un, k0, k1, k2, k3, st, rn⟩ ⟨lk, li, la⟩ op = none) := Lib.hid (by unfold doA; dsimp only; rw [hnr, hdr]; exact if_neg (fun q => q.2.1 hx))
        clear hnr hdr
        have TX : Hid ((lk == 2 && la == 9) = true) := Lib.hid (by rw [hx.1, hx.2]; rfl)
        have t1 : (ne != 0) = false := by simpa using he
        have t2 : (io != op) = false := by simpa using ho
        clear he ho hx
        have GG : Hid (w.grownBy w (some b)) := Lib.hid (World.grownBy.refl _ _)
        go_enter Tryd.func50, Tryd.ntmps50
        obtain ⟨qT_0, qT_1, qT_2, qT_3, qT_4, qT_5, qT_6, qT_7, qT_8, qT_9, qT_10, qT_11, qT_12, qT_13⟩ := KT.out.c14t
        have lT := KT.out.lt
        go_wp2_with fail
        refine (next_any ⟨id, tn, pg, pc, un, k0, k1, k2, k3, st, rn⟩ A n c p _ (HP.out _ (gr_below GG.out HBb.out HBs.out))).mono ?_
        rw [HNR.out]
        try dsimp only
        rintro e U1 ⟨rfl, bU1⟩
        clear qT_0 qT_1 qT_2 qT_3 qT_4 qT_5 qT_6 qT_7 qT_8 qT_9 qT_10 qT_11 qT_12 qT_13 lT
        replace GG := Lib.hid (gr_trans GG.out (gr_of bU1 _))
        replace KT := Lib.hid (KT.out.below bU1 KT.out.lt)
        replace HFo := Lib.hid (HFo.out.le bU1)
        clear bU1
        dsimp only [vI]
        have kn := Bk.new U1 50 #[.int .i64 io, .int .i64 ia, .int .i64 ib]
        have ba := (Below.refl U1.heap.size U1).alloc (Nat.le_refl _) (.cells #[.int .i64 io, .int .i64 ia, .int .i64 ib] 50)
        have nt := Nat.ne_of_lt KT.out.lt
        replace GG := Lib.hid (gr_trans GG.out (gr_of ba _))
        replace KT := Lib.hid (KT.out.below ba KT.out.lt)
        replace HFo := Lib.hid (HFo.out.le ba)
        obtain ⟨gN, hg⟩ : ∃ g, U1.heap.size = g := ⟨_, rfl⟩
        obtain ⟨V2, hW⟩ : ∃ W, U1.alloc (.cells #[.int .i64 io, .int .i64 ia, .int .i64 ib] 50) = W := ⟨_, rfl⟩
        have KN := Lib.hid kn
        rw [hW] at GG KT HFo KN
        rw [hg] at KN nt
        have HGN := Lib.hid hg
        have HWN := Lib.hid hW
        have NT_N := Lib.hid nt
        clear hW hg kn ba nt
        go_upto_region 2 with fail
        rw [HWN.out]
        try rw [HGN.out]
        clear HWN HGN
        obtain ⟨qN_0, qN_1, qN_2⟩ := KN.out.c3
        have lN := KN.out.lt
        go_wp2_with fail
        refine (exited_tp b ⟨id, tn, pg, pc, un, k0, k1, k2, k3, st, rn⟩ ⟨lk, li, la⟩ _ KT.out).mono ?_
        dsimp only
        rw [TX.out]
        rintro e w1 ⟨rfl, hw⟩
        have hw2 := hw.symm
        subst hw2
        clear hw
        go_wp2_with fail
        go_ret
        exact stp_no HNO.out GG.out
      · by_cases hs : st = 1
        · by_cases hd : de = 0
          · have HYES : Hid (doA p ⟨id, tn, pg, pc, un, k0, k1, k2, k3, st, rn⟩ ⟨lk, li, la⟩ op = some ⟨a0, a1, a2, a3, a4, a5, a6, a7, a8, 1, a10⟩) := Lib.hid (by unfold doA; dsimp only; rw [hnr, hdr]; exact if_pos ⟨hs, hx, ho.symm, hd⟩)
            have hr := do_run (t := ⟨id, tn, pg, pc, un, k0, k1, k2, k3, 2, rn⟩) (p := p) (by rw [hdr]; exact hd)
            rw [hdr] at hr
            have HM1 : Hid (moveR ⟨a0, a1, a2, a3, a4, a5, a6, a7, a8, a9, a10⟩ 1 = (0, ⟨a0, a1, a2, a3, a4, a5, a6, a7, a8, 1, a10⟩)) := Lib.hid (mv_ready hr.1 hr.2)
            clear hr hnr hdr
            have TX : Hid ((lk == 2 && la == 9) = false) := Lib.hid (by simpa using fun h => fun k => hx ⟨h, k⟩)
            have t1 : (ne != 0) = false := by simpa using he
            have t2 : (io != op) = false := by simpa using ho
            have HM : Hid (moveR ⟨id, tn, pg, pc, un, k0, k1, k2, k3, st, rn⟩ 2 = (0, ⟨id, tn, pg, pc, un, k0, k1, k2, k3, 2, rn⟩)) := Lib.hid (mv_run hok hs)
            have t3 : (de == 0) = true := by simpa using hd
            clear he ho hx hs hd hok
            have GG : Hid (w.grownBy w (some b)) := Lib.hid (World.grownBy.refl _ _)
            go_enter Tryd.func50, Tryd.ntmps50
            obtain ⟨qT_0, qT_1, qT_2, qT_3, qT_4, qT_5, qT_6, qT_7, qT_8, qT_9, qT_10, qT_11, qT_12, qT_13⟩ := KT.out.c14t
            have lT := KT.out.lt
            go_wp2_with fail
            refine (next_any ⟨id, tn, pg, pc, un, k0, k1, k2, k3, st, rn⟩ A n c p _ (HP.out _ (gr_below GG.out HBb.out HBs.out))).mono ?_
            rw [HNR.out]
            try dsimp only
            rintro e U1 ⟨rfl, bU1⟩
            clear qT_0 qT_1 qT_2 qT_3 qT_4 qT_5 qT_6 qT_7 qT_8 qT_9 qT_10 qT_11 qT_12 qT_13 lT
            replace GG := Lib.hid (gr_trans GG.out (gr_of bU1 _))
            replace KT := Lib.hid (KT.out.below bU1 KT.out.lt)
            replace HFo := Lib.hid (HFo.out.le bU1)
            clear bU1
            dsimp only [vI]
            have kn := Bk.new U1 50 #[.int .i64 io, .int .i64 ia, .int .i64 ib]
            have ba := (Below.refl U1.heap.size U1).alloc (Nat.le_refl _) (.cells #[.int .i64 io, .int .i64 ia, .int .i64 ib] 50)
            have nt := Nat.ne_of_lt KT.out.lt
            replace GG := Lib.hid (gr_trans GG.out (gr_of ba _))
            replace KT := Lib.hid (KT.out.below ba KT.out.lt)
            replace HFo := Lib.hid (HFo.out.le ba)
            obtain ⟨gN, hg⟩ : ∃ g, U1.heap.size = g := ⟨_, rfl⟩
            obtain ⟨V2, hW⟩ : ∃ W, U1.alloc (.cells #[.int .i64 io, .int .i64 ia, .int .i64 ib] 50) = W := ⟨_, rfl⟩
            have KN := Lib.hid kn
            rw [hW] at GG KT HFo KN
            rw [hg] at KN nt
            have HGN := Lib.hid hg
            have HWN := Lib.hid hW
            have NT_N := Lib.hid nt
            clear hW hg kn ba nt
            go_upto_region 2 with fail
            rw [HWN.out]
            try rw [HGN.out]
            clear HWN HGN
            obtain ⟨qN_0, qN_1, qN_2⟩ := KN.out.c3
            have lN := KN.out.lt
            go_wp2_with fail
            refine (exited_tp b ⟨id, tn, pg, pc, un, k0, k1, k2, k3, st, rn⟩ ⟨lk, li, la⟩ _ KT.out).mono ?_
            dsimp only
            rw [TX.out]
            rintro e w1 ⟨rfl, hw⟩
            have hw2 := hw.symm
            subst hw2
            clear hw
            go_wp2_with fail
            refine (move_yes b ⟨id, tn, pg, pc, un, k0, k1, k2, k3, st, rn⟩ ⟨id, tn, pg, pc, un, k0, k1, k2, k3, 2, rn⟩ ⟨lk, li, la⟩ 2 _ HFo.out HB0.out KT.out HM.out).mono ?_
            unfold TakP tkc
            try dsimp only
            rintro e U3 ⟨rfl, kt, gg⟩
            clear qN_0 qN_1 qN_2 lN
            replace HFo := Lib.hid (HFo.out.gr gg HB0.out)
            replace KN := Lib.hid (KN.out.grown gg (some_ne NT_N.out))
            have KT := Lib.hid kt
            replace GG := Lib.hid (gr_trans GG.out gg)
            clear kt gg
            obtain ⟨qT_0, qT_1, qT_2, qT_3, qT_4, qT_5, qT_6, qT_7, qT_8, qT_9, qT_10, qT_11, qT_12, qT_13⟩ := KT.out.c14t
            have lT := KT.out.lt
            go_wp2_with fail
            refine (do_any ⟨id, tn, pg, pc, un, k0, k1, k2, k3, 2, rn⟩ A n c p _ (HP.out _ (gr_below GG.out HBb.out HBs.out))).mono ?_
            rw [HDR.out]
            try dsimp only
            rintro e U4 ⟨rfl, bU4⟩
            clear qT_0 qT_1 qT_2 qT_3 qT_4 qT_5 qT_6 qT_7 qT_8 qT_9 qT_10 qT_11 qT_12 qT_13 lT
            replace GG := Lib.hid (gr_trans GG.out (gr_of bU4 _))
            replace KT := Lib.hid (KT.out.below bU4 KT.out.lt)
            replace HFo := Lib.hid (HFo.out.le bU4)
            replace KN := Lib.hid (KN.out.below bU4 KN.out.lt)
            clear bU4
            dsimp only [vI, tc]
            obtain ⟨kn, km, ba⟩ := lies2 U4 #[.int .i64 a0, .int .i64 a1, .int .i64 a2, .int .i64 a3, .int .i64 a4, .int .i64 a5, .int .i64 a6, .int .i64 a7, .int .i64 a8, .int .i64 a9, .int .i64 a10] #[.int .i64 fo, .int .i64 fa, .int .i64 fb] 44 72
            have nt := KT.out.lt
            have nN_W := KN.out.lt
            replace GG := Lib.hid (gr_trans GG.out (gr_of ba _))
            replace KT := Lib.hid (KT.out.below ba KT.out.lt)
            replace HFo := Lib.hid (HFo.out.le ba)
            replace KN := Lib.hid (KN.out.below ba KN.out.lt)
            obtain ⟨gW, hg⟩ : ∃ g, U4.heap.size = g := ⟨_, rfl⟩
            obtain ⟨V5, hW⟩ : ∃ W, (U4.alloc (.cells #[.int .i64 a0, .int .i64 a1, .int .i64 a2, .int .i64 a3, .int .i64 a4, .int .i64 a5, .int .i64 a6, .int .i64 a7, .int .i64 a8, .int .i64 a9, .int .i64 a10] 44)).alloc (.cells #[.int .i64 fo, .int .i64 fa, .int .i64 fb] 72) = W := ⟨_, rfl⟩
            rw [hW] at GG KT HFo kn km KN
            rw [hg] at kn km nt nN_W
            have KW := Lib.hid kn
            have KY := Lib.hid km
            have HGa := Lib.hid hg
            have HWa := Lib.hid hW
            have NT_W : Hid (b ≠ gW) := Lib.hid (Nat.ne_of_lt nt)
            have NT_Y : Hid (b ≠ gW + 1) := Lib.hid (by omega)
            clear hW hg kn km ba nt nN_W
            go_upto_region 5 with fail
            rw [HWa.out]
            try rw [HGa.out]
            clear HWa HGa
            obtain ⟨qW_0, qW_1, qW_2, qW_3, qW_4, qW_5, qW_6, qW_7, qW_8, qW_9, qW_10⟩ := KW.out.c11
            have lW := KW.out.lt
            obtain ⟨qT_0, qT_1, qT_2, qT_3, qT_4, qT_5, qT_6, qT_7, qT_8, qT_9, qT_10, qT_11, qT_12, qT_13⟩ := KT.out.c14t
            have lT := KT.out.lt
            obtain ⟨fT_0, fT_1, fT_2, fT_3, fT_4, fT_5, fT_6, fT_7, fT_8, fT_9, fT_10, fT_11, fT_12, fT_13⟩ := KT.out.f14t
            have x0 := bk_set14 KT.out (.int .i64 a0) (.int .i64 a1) (.int .i64 a2) (.int .i64 a3) (.int .i64 a4) (.int .i64 a5) (.int .i64 a6) (.int .i64 a7) (.int .i64 a8) (.int .i64 a9) (.int .i64 a10)
            have xg := gr_set14 (g := b) (World.grownBy.refl V5 _) (.int .i64 a0) (.int .i64 a1) (.int .i64 a2) (.int .i64 a3) (.int .i64 a4) (.int .i64 a5) (.int .i64 a6) (.int .i64 a7) (.int .i64 a8) (.int .i64 a9) (.int .i64 a10)
            have x_N := far_set11 KN.out (some_ne2 NT_N.out) (.int .i64 a0) (.int .i64 a1) (.int .i64 a2) (.int .i64 a3) (.int .i64 a4) (.int .i64 a5) (.int .i64 a6) (.int .i64 a7) (.int .i64 a8) (.int .i64 a9) (.int .i64 a10)
            have x_W := far_set11 KW.out (some_ne2 NT_W.out) (.int .i64 a0) (.int .i64 a1) (.int .i64 a2) (.int .i64 a3) (.int .i64 a4) (.int .i64 a5) (.int .i64 a6) (.int .i64 a7) (.int .i64 a8) (.int .i64 a9) (.int .i64 a10)
            have x_Y := far_set11 KY.out (some_ne2 NT_Y.out) (.int .i64 a0) (.int .i64 a1) (.int .i64 a2) (.int .i64 a3) (.int .i64 a4) (.int .i64 a5) (.int .i64 a6) (.int .i64 a7) (.int .i64 a8) (.int .i64 a9) (.int .i64 a10)
            obtain ⟨X6, hX⟩ : ∃ X, set11 V5 b (.int .i64 a0) (.int .i64 a1) (.int .i64 a2) (.int .i64 a3) (.int .i64 a4) (.int .i64 a5) (.int .i64 a6) (.int .i64 a7) (.int .i64 a8) (.int .i64 a9) (.int .i64 a10) = X := ⟨_, rfl⟩
            rw [hX] at x0 xg x_N x_W x_Y
            unfold set11 at hX
            have HX := Lib.hid hX
            replace KT := Lib.hid x0
            replace HFo := Lib.hid (HFo.out.gr xg HB0.out)
            replace GG := Lib.hid (gr_trans GG.out xg)
            replace KN := Lib.hid x_N
            replace KW := Lib.hid x_W
            replace KY := Lib.hid x_Y
            clear hX x0 xg x_N x_W x_Y
            go_upto_region 6 with fail
            rw [HX.out]
            clear HX
            clear qW_0 qW_1 qW_2 qW_3 qW_4 qW_5 qW_6 qW_7 qW_8 qW_9 qW_10 lW qT_0 qT_1 qT_2 qT_3 qT_4 qT_5 qT_6 qT_7 qT_8 qT_9 qT_10 qT_11 qT_12 qT_13 lT fT_0 fT_1 fT_2 fT_3 fT_4 fT_5 fT_6 fT_7 fT_8 fT_9 fT_10 fT_11 fT_12 fT_13
            go_wp2_with fail
            refine (move_yes b ⟨a0, a1, a2, a3, a4, a5, a6, a7, a8, a9, a10⟩ ⟨a0, a1, a2, a3, a4, a5, a6, a7, a8, 1, a10⟩ ⟨lk, li, la⟩ 1 _ HFo.out HB0.out KT.out HM1.out).mono ?_
            unfold TakP tkc
            try dsimp only
            rintro e U7 ⟨rfl, kt, gg⟩
            replace HFo := Lib.hid (HFo.out.gr gg HB0.out)
            replace KN := Lib.hid (KN.out.grown gg (some_ne NT_N.out))
            replace KW := Lib.hid (KW.out.grown gg (some_ne NT_W.out))
            replace KY := Lib.hid (KY.out.grown gg (some_ne NT_Y.out))
            have KT := Lib.hid kt
            replace GG := Lib.hid (gr_trans GG.out gg)
            clear kt gg
            go_wp2_with fail
            go_ret
            exact stp_yes HYES.out KT.out GG.out
          · have HNO : Hid (doA p ⟨id, tn, pg, pc, un, k0, k1, k2, k3, st, rn⟩ ⟨lk, li, la⟩ op = none) := Lib.hid (by unfold doA; dsimp only; rw [hnr, hdr]; exact if_neg (fun q => hd q.2.2.2))
            clear hnr hdr
            have TX : Hid ((lk == 2 && la == 9) = false) := Lib.hid (by simpa using fun h => fun k => hx ⟨h, k⟩)
            have t1 : (ne != 0) = false := by simpa using he
            have t2 : (io != op) = false := by simpa using ho
            have HM : Hid (moveR ⟨id, tn, pg, pc, un, k0, k1, k2, k3, st, rn⟩ 2 = (0, ⟨id, tn, pg, pc, un, k0, k1, k2, k3, 2, rn⟩)) := Lib.hid (mv_run hok hs)
            have t3 : (de == 0) = false := by simpa using hd
            clear he ho hx hs hd hok
            have GG : Hid (w.grownBy w (some b)) := Lib.hid (World.grownBy.refl _ _)
            go_enter Tryd.func50, Tryd.ntmps50
            obtain ⟨qT_0, qT_1, qT_2, qT_3, qT_4, qT_5, qT_6, qT_7, qT_8, qT_9, qT_10, qT_11, qT_12, qT_13⟩ := KT.out.c14t
            have lT := KT.out.lt
            go_wp2_with fail
            refine (next_any ⟨id, tn, pg, pc, un, k0, k1, k2, k3, st, rn⟩ A n c p _ (HP.out _ (gr_below GG.out HBb.out HBs.out))).mono ?_
            rw [HNR.out]
            try dsimp only
            rintro e U1 ⟨rfl, bU1⟩
            clear qT_0 qT_1 qT_2 qT_3 qT_4 qT_5 qT_6 qT_7 qT_8 qT_9 qT_10 qT_11 qT_12 qT_13 lT
            replace GG := Lib.hid (gr_trans GG.out (gr_of bU1 _))
            replace KT := Lib.hid (KT.out.below bU1 KT.out.lt)
            replace HFo := Lib.hid (HFo.out.le bU1)
            clear bU1
            dsimp only [vI]
            have kn := Bk.new U1 50 #[.int .i64 io, .int .i64 ia, .int .i64 ib]
            have ba := (Below.refl U1.heap.size U1).alloc (Nat.le_refl _) (.cells #[.int .i64 io, .int .i64 ia, .int .i64 ib] 50)
            have nt := Nat.ne_of_lt KT.out.lt
            replace GG := Lib.hid (gr_trans GG.out (gr_of ba _))
            replace KT := Lib.hid (KT.out.below ba KT.out.lt)
            replace HFo := Lib.hid (HFo.out.le ba)
            obtain ⟨gN, hg⟩ : ∃ g, U1.heap.size = g := ⟨_, rfl⟩
            obtain ⟨V2, hW⟩ : ∃ W, U1.alloc (.cells #[.int .i64 io, .int .i64 ia, .int .i64 ib] 50) = W := ⟨_, rfl⟩
            have KN := Lib.hid kn
            rw [hW] at GG KT HFo KN
            rw [hg] at KN nt
            have HGN := Lib.hid hg
            have HWN := Lib.hid hW
            have NT_N := Lib.hid nt
            clear hW hg kn ba nt
            go_upto_region 2 with fail
            rw [HWN.out]
            try rw [HGN.out]
            clear HWN HGN
            obtain ⟨qN_0, qN_1, qN_2⟩ := KN.out.c3
            have lN := KN.out.lt
            go_wp2_with fail
            refine (exited_tp b ⟨id, tn, pg, pc, un, k0, k1, k2, k3, st, rn⟩ ⟨lk, li, la⟩ _ KT.out).mono ?_
            dsimp only
            rw [TX.out]
            rintro e w1 ⟨rfl, hw⟩
            have hw2 := hw.symm
            subst hw2
            clear hw
            go_wp2_with fail
            refine (move_yes b ⟨id, tn, pg, pc, un, k0, k1, k2, k3, st, rn⟩ ⟨id, tn, pg, pc, un, k0, k1, k2, k3, 2, rn⟩ ⟨lk, li, la⟩ 2 _ HFo.out HB0.out KT.out HM.out).mono ?_
            unfold TakP tkc
            try dsimp only
            rintro e U3 ⟨rfl, kt, gg⟩
            clear qN_0 qN_1 qN_2 lN
            replace HFo := Lib.hid (HFo.out.gr gg HB0.out)
            replace KN := Lib.hid (KN.out.grown gg (some_ne NT_N.out))
            have KT := Lib.hid kt
            replace GG := Lib.hid (gr_trans GG.out gg)
            clear kt gg
            obtain ⟨qT_0, qT_1, qT_2, qT_3, qT_4, qT_5, qT_6, qT_7, qT_8, qT_9, qT_10, qT_11, qT_12, qT_13⟩ := KT.out.c14t
            have lT := KT.out.lt
            go_wp2_with fail
            refine (do_any ⟨id, tn, pg, pc, un, k0, k1, k2, k3, 2, rn⟩ A n c p _ (HP.out _ (gr_below GG.out HBb.out HBs.out))).mono ?_
            rw [HDR.out]
            try dsimp only
            rintro e U4 ⟨rfl, bU4⟩
            clear qT_0 qT_1 qT_2 qT_3 qT_4 qT_5 qT_6 qT_7 qT_8 qT_9 qT_10 qT_11 qT_12 qT_13 lT
            replace GG := Lib.hid (gr_trans GG.out (gr_of bU4 _))
            replace KT := Lib.hid (KT.out.below bU4 KT.out.lt)
            replace HFo := Lib.hid (HFo.out.le bU4)
            replace KN := Lib.hid (KN.out.below bU4 KN.out.lt)
            clear bU4
            dsimp only [vI, tc]
            obtain ⟨kn, km, ba⟩ := lies2 U4 #[.int .i64 a0, .int .i64 a1, .int .i64 a2, .int .i64 a3, .int .i64 a4, .int .i64 a5, .int .i64 a6, .int .i64 a7, .int .i64 a8, .int .i64 a9, .int .i64 a10] #[.int .i64 fo, .int .i64 fa, .int .i64 fb] 44 72
            have nt := KT.out.lt
            have nN_W := KN.out.lt
            replace GG := Lib.hid (gr_trans GG.out (gr_of ba _))
            replace KT := Lib.hid (KT.out.below ba KT.out.lt)
            replace HFo := Lib.hid (HFo.out.le ba)
            replace KN := Lib.hid (KN.out.below ba KN.out.lt)
            obtain ⟨gW, hg⟩ : ∃ g, U4.heap.size = g := ⟨_, rfl⟩
            obtain ⟨V5, hW⟩ : ∃ W, (U4.alloc (.cells #[.int .i64 a0, .int .i64 a1, .int .i64 a2, .int .i64 a3, .int .i64 a4, .int .i64 a5, .int .i64 a6, .int .i64 a7, .int .i64 a8, .int .i64 a9, .int .i64 a10] 44)).alloc (.cells #[.int .i64 fo, .int .i64 fa, .int .i64 fb] 72) = W := ⟨_, rfl⟩
            rw [hW] at GG KT HFo kn km KN
            rw [hg] at kn km nt nN_W
            have KW := Lib.hid kn
            have KY := Lib.hid km
            have HGa := Lib.hid hg
            have HWa := Lib.hid hW
            have NT_W : Hid (b ≠ gW) := Lib.hid (Nat.ne_of_lt nt)
            have NT_Y : Hid (b ≠ gW + 1) := Lib.hid (by omega)
            clear hW hg kn km ba nt nN_W
            go_upto_region 5 with fail
            rw [HWa.out]
            try rw [HGa.out]
            clear HWa HGa
            obtain ⟨qW_0, qW_1, qW_2, qW_3, qW_4, qW_5, qW_6, qW_7, qW_8, qW_9, qW_10⟩ := KW.out.c11
            have lW := KW.out.lt
            obtain ⟨qT_0, qT_1, qT_2, qT_3, qT_4, qT_5, qT_6, qT_7, qT_8, qT_9, qT_10, qT_11, qT_12, qT_13⟩ := KT.out.c14t
            have lT := KT.out.lt
            obtain ⟨fT_0, fT_1, fT_2, fT_3, fT_4, fT_5, fT_6, fT_7, fT_8, fT_9, fT_10, fT_11, fT_12, fT_13⟩ := KT.out.f14t
            have x0 := bk_set14 KT.out (.int .i64 a0) (.int .i64 a1) (.int .i64 a2) (.int .i64 a3) (.int .i64 a4) (.int .i64 a5) (.int .i64 a6) (.int .i64 a7) (.int .i64 a8) (.int .i64 a9) (.int .i64 a10)
            have xg := gr_set14 (g := b) (World.grownBy.refl V5 _) (.int .i64 a0) (.int .i64 a1) (.int .i64 a2) (.int .i64 a3) (.int .i64 a4) (.int .i64 a5) (.int .i64 a6) (.int .i64 a7) (.int .i64 a8) (.int .i64 a9) (.int .i64 a10)
            have x_N := far_set11 KN.out (some_ne2 NT_N.out) (.int .i64 a0) (.int .i64 a1) (.int .i64 a2) (.int .i64 a3) (.int .i64 a4) (.int .i64 a5) (.int .i64 a6) (.int .i64 a7) (.int .i64 a8) (.int .i64 a9) (.int .i64 a10)
            have x_W := far_set11 KW.out (some_ne2 NT_W.out) (.int .i64 a0) (.int .i64 a1) (.int .i64 a2) (.int .i64 a3) (.int .i64 a4) (.int .i64 a5) (.int .i64 a6) (.int .i64 a7) (.int .i64 a8) (.int .i64 a9) (.int .i64 a10)
            have x_Y := far_set11 KY.out (some_ne2 NT_Y.out) (.int .i64 a0) (.int .i64 a1) (.int .i64 a2) (.int .i64 a3) (.int .i64 a4) (.int .i64 a5) (.int .i64 a6) (.int .i64 a7) (.int .i64 a8) (.int .i64 a9) (.int .i64 a10)
            obtain ⟨X6, hX⟩ : ∃ X, set11 V5 b (.int .i64 a0) (.int .i64 a1) (.int .i64 a2) (.int .i64 a3) (.int .i64 a4) (.int .i64 a5) (.int .i64 a6) (.int .i64 a7) (.int .i64 a8) (.int .i64 a9) (.int .i64 a10) = X := ⟨_, rfl⟩
            rw [hX] at x0 xg x_N x_W x_Y
            unfold set11 at hX
            have HX := Lib.hid hX
            replace KT := Lib.hid x0
            replace HFo := Lib.hid (HFo.out.gr xg HB0.out)
            replace GG := Lib.hid (gr_trans GG.out xg)
            replace KN := Lib.hid x_N
            replace KW := Lib.hid x_W
            replace KY := Lib.hid x_Y
            clear hX x0 xg x_N x_W x_Y
            go_upto_region 6 with fail
            rw [HX.out]
            clear HX
            clear qW_0 qW_1 qW_2 qW_3 qW_4 qW_5 qW_6 qW_7 qW_8 qW_9 qW_10 lW qT_0 qT_1 qT_2 qT_3 qT_4 qT_5 qT_6 qT_7 qT_8 qT_9 qT_10 qT_11 qT_12 qT_13 lT fT_0 fT_1 fT_2 fT_3 fT_4 fT_5 fT_6 fT_7 fT_8 fT_9 fT_10 fT_11 fT_12 fT_13
            go_wp2_with fail
            go_ret
            exact stp_no HNO.out GG.out
        · have HNO : Hid (doA p ⟨id, tn, pg, pc, un, k0, k1, k2, k3, st, rn⟩ ⟨lk, li, la⟩ op = none) := Lib.hid (by unfold doA; dsimp only; rw [hnr, hdr]; exact if_neg (fun q => hs q.1))
          clear hnr hdr
          have TX : Hid ((lk == 2 && la == 9) = false) := Lib.hid (by simpa using fun h => fun k => hx ⟨h, k⟩)
          have t1 : (ne != 0) = false := by simpa using he
          have t2 : (io != op) = false := by simpa using ho
          have HM : Hid ((moveR ⟨id, tn, pg, pc, un, k0, k1, k2, k3, st, rn⟩ 2).1 ≠ 0) := Lib.hid (mv_run_no hs)
          clear he ho hx hs
          have GG : Hid (w.grownBy w (some b)) := Lib.hid (World.grownBy.refl _ _)
          go_enter Tryd.func50, Tryd.ntmps50
          obtain ⟨qT_0, qT_1, qT_2, qT_3, qT_4, qT_5, qT_6, qT_7, qT_8, qT_9, qT_10, qT_11, qT_12, qT_13⟩ := KT.out.c14t
          have lT := KT.out.lt
          go_wp2_with fail
          refine (next_any ⟨id, tn, pg, pc, un, k0, k1, k2, k3, st, rn⟩ A n c p _ (HP.out _ (gr_below GG.out HBb.out HBs.out))).mono ?_
          rw [HNR.out]
          try dsimp only
          rintro e U1 ⟨rfl, bU1⟩
          clear qT_0 qT_1 qT_2 qT_3 qT_4 qT_5 qT_6 qT_7 qT_8 qT_9 qT_10 qT_11 qT_12 qT_13 lT
          replace GG := Lib.hid (gr_trans GG.out (gr_of bU1 _))
          replace KT := Lib.hid (KT.out.below bU1 KT.out.lt)
          replace HFo := Lib.hid (HFo.out.le bU1)
          clear bU1
          dsimp only [vI]
          have kn := Bk.new U1 50 #[.int .i64 io, .int .i64 ia, .int .i64 ib]
          have ba := (Below.refl U1.heap.size U1).alloc (Nat.le_refl _) (.cells #[.int .i64 io, .int .i64 ia, .int .i64 ib] 50)
          have nt := Nat.ne_of_lt KT.out.lt
          replace GG := Lib.hid (gr_trans GG.out (gr_of ba _))
          replace KT := Lib.hid (KT.out.below ba KT.out.lt)
          replace HFo := Lib.hid (HFo.out.le ba)
          obtain ⟨gN, hg⟩ : ∃ g, U1.heap.size = g := ⟨_, rfl⟩
          obtain ⟨V2, hW⟩ : ∃ W, U1.alloc (.cells #[.int .i64 io, .int .i64 ia, .int .i64 ib] 50) = W := ⟨_, rfl⟩
          have KN := Lib.hid kn
          rw [hW] at GG KT HFo KN
          rw [hg] at KN nt
          have HGN := Lib.hid hg
          have HWN := Lib.hid hW
          have NT_N := Lib.hid nt
          clear hW hg kn ba nt
          go_upto_region 2 with fail
          rw [HWN.out]
          try rw [HGN.out]
          clear HWN HGN
          obtain ⟨qN_0, qN_1, qN_2⟩ := KN.out.c3
          have lN := KN.out.lt
          go_wp2_with fail
          refine (exited_tp b ⟨id, tn, pg, pc, un, k0, k1, k2, k3, st, rn⟩ ⟨lk, li, la⟩ _ KT.out).mono ?_
          dsimp only
          rw [TX.out]
          rintro e w1 ⟨rfl, hw⟩
          have hw2 := hw.symm
          subst hw2
          clear hw
          go_wp2_with fail
          refine (move_not b ⟨id, tn, pg, pc, un, k0, k1, k2, k3, st, rn⟩ ⟨lk, li, la⟩ 2 _ HFo.out HB0.out KT.out HM.out).mono ?_
          unfold TakP tkc
          try dsimp only
          rintro e U3 ⟨rfl, kt, gg⟩
          clear qN_0 qN_1 qN_2 lN
          replace HFo := Lib.hid (HFo.out.gr gg HB0.out)
          replace KN := Lib.hid (KN.out.grown gg (some_ne NT_N.out))
          have KT := Lib.hid kt
          replace GG := Lib.hid (gr_trans GG.out gg)
          clear kt gg
          go_wp2_with fail
          go_ret
          exact stp_no HNO.out GG.out
    · have HNO : Hid (doA p ⟨id, tn, pg, pc, un, k0, k1, k2, k3, st, rn⟩ ⟨lk, li, la⟩ op = none) := Lib.hid (by unfold doA; dsimp only; rw [hnr, hdr]; exact if_neg (fun q => ho q.2.2.1.symm))
      clear hnr hdr
      have t1 : (ne != 0) = false := by simpa using he
      have t2 : (io != op) = true := by simpa using ho
      clear he ho
      have GG : Hid (w.grownBy w (some b)) := Lib.hid (World.grownBy.refl _ _)
      go_enter Tryd.func50, Tryd.ntmps50
      obtain ⟨qT_0, qT_1, qT_2, qT_3, qT_4, qT_5, qT_6, qT_7, qT_8, qT_9, qT_10, qT_11, qT_12, qT_13⟩ := KT.out.c14t
      have lT := KT.out.lt
      go_wp2_with fail
      refine (next_any ⟨id, tn, pg, pc, un, k0, k1, k2, k3, st, rn⟩ A n c p _ (HP.out _ (gr_below GG.out HBb.out HBs.out))).mono ?_
      rw [HNR.out]
      try dsimp only
      rintro e U1 ⟨rfl, bU1⟩
      clear qT_0 qT_1 qT_2 qT_3 qT_4 qT_5 qT_6 qT_7 qT_8 qT_9 qT_10 qT_11 qT_12 qT_13 lT
      replace GG := Lib.hid (gr_trans GG.out (gr_of bU1 _))
      replace KT := Lib.hid (KT.out.below bU1 KT.out.lt)
      replace HFo := Lib.hid (HFo.out.le bU1)
      clear bU1
      dsimp only [vI]
      have kn := Bk.new U1 50 #[.int .i64 io, .int .i64 ia, .int .i64 ib]
      have ba := (Below.refl U1.heap.size U1).alloc (Nat.le_refl _) (.cells #[.int .i64 io, .int .i64 ia, .int .i64 ib] 50)
      have nt := Nat.ne_of_lt KT.out.lt
      replace GG := Lib.hid (gr_trans GG.out (gr_of ba _))
      replace KT := Lib.hid (KT.out.below ba KT.out.lt)
      replace HFo := Lib.hid (HFo.out.le ba)
      obtain ⟨gN, hg⟩ : ∃ g, U1.heap.size = g := ⟨_, rfl⟩
      obtain ⟨V2, hW⟩ : ∃ W, U1.alloc (.cells #[.int .i64 io, .int .i64 ia, .int .i64 ib] 50) = W := ⟨_, rfl⟩
      have KN := Lib.hid kn
      rw [hW] at GG KT HFo KN
      rw [hg] at KN nt
      have HGN := Lib.hid hg
      have HWN := Lib.hid hW
      have NT_N := Lib.hid nt
      clear hW hg kn ba nt
      go_upto_region 2 with fail
      rw [HWN.out]
      try rw [HGN.out]
      clear HWN HGN
      obtain ⟨qN_0, qN_1, qN_2⟩ := KN.out.c3
      have lN := KN.out.lt
      go_wp2_with fail
      go_ret
      exact stp_no HNO.out GG.out
  · have HNO : Hid (doA p ⟨id, tn, pg, pc, un, k0, k1, k2, k3, st, rn⟩ ⟨lk, li, la⟩ op = none) := Lib.hid (by unfold doA; dsimp only; rw [hnr, hdr]; exact if_neg (fun q => do_next (t := ⟨id, tn, pg, pc, un, k0, k1, k2, k3, st, rn⟩) (p := p) (by rw [hnr]; exact he) q.1 (by rw [hdr]; exact q.2.2.2)))
    clear hnr hdr
    have t1 : (ne != 0) = true := by simpa using he
    clear he
    have GG : Hid (w.grownBy w (some b)) := Lib.hid (World.grownBy.refl _ _)
    go_enter Tryd.func50, Tryd.ntmps50
    obtain ⟨qT_0, qT_1, qT_2, qT_3, qT_4, qT_5, qT_6, qT_7, qT_8, qT_9, qT_10, qT_11, qT_12, qT_13⟩ := KT.out.c14t
    have lT := KT.out.lt
    go_wp2_with fail
    refine (next_any ⟨id, tn, pg, pc, un, k0, k1, k2, k3, st, rn⟩ A n c p _ (HP.out _ (gr_below GG.out HBb.out HBs.out))).mono ?_
    rw [HNR.out]
    try dsimp only
    rintro e U1 ⟨rfl, bU1⟩
    clear qT_0 qT_1 qT_2 qT_3 qT_4 qT_5 qT_6 qT_7 qT_8 qT_9 qT_10 qT_11 qT_12 qT_13 lT
    replace GG := Lib.hid (gr_trans GG.out (gr_of bU1 _))
    replace KT := Lib.hid (KT.out.below bU1 KT.out.lt)
    replace HFo := Lib.hid (HFo.out.le bU1)
    clear bU1
    dsimp only [vI]
    have kn := Bk.new U1 50 #[.int .i64 io, .int .i64 ia, .int .i64 ib]
    have ba := (Below.refl U1.heap.size U1).alloc (Nat.le_refl _) (.cells #[.int .i64 io, .int .i64 ia, .int .i64 ib] 50)
    have nt := Nat.ne_of_lt KT.out.lt
    replace GG := Lib.hid (gr_trans GG.out (gr_of ba _))
    replace KT := Lib.hid (KT.out.below ba KT.out.lt)
    replace HFo := Lib.hid (HFo.out.le ba)
    obtain ⟨gN, hg⟩ : ∃ g, U1.heap.size = g := ⟨_, rfl⟩
    obtain ⟨V2, hW⟩ : ∃ W, U1.alloc (.cells #[.int .i64 io, .int .i64 ia, .int .i64 ib] 50) = W := ⟨_, rfl⟩
    have KN := Lib.hid kn
    rw [hW] at GG KT HFo KN
    rw [hg] at KN nt
    have HGN := Lib.hid hg
    have HWN := Lib.hid hW
    have NT_N := Lib.hid nt
    clear hW hg kn ba nt
    go_upto_region 2 with fail
    rw [HWN.out]
    try rw [HGN.out]
    clear HWN HGN
    obtain ⟨qN_0, qN_1, qN_2⟩ := KN.out.c3
    have lN := KN.out.lt
    go_wp2_with fail
    go_ret
    exact stp_no HNO.out GG.out

set_option maxHeartbeats 4000000 in
theorem follow_tp (b : Nat) (T : Tk) (L : I3) (x : I3) (w : World) (A : Option Addr) (n c : Nat) (p : List I3) (B : Nat) (hBb : B ≤ b) (hBs : B ≤ w.heap.size) (hP : ∀ w1, Below B w w1 → Prog w1 A n c p) (hF : Fol w) (hb0 : b ≠ 0) (hK : Bk w b 58 (tkc T L)) (hok : okT T) (hst : L.1 = 2 → T.st = 1) :
    Calls Tryd.prog 44 #[.pointer (some ⟨b, 0, none⟩), .slice A n c, .agg #[.int .i64 x.1, .int .i64 x.2.1, .int .i64 x.2.2]] w (StP b (stepA p T L x) L w) := by
  obtain ⟨id, tn, pg, pc, un, k0, k1, k2, k3, st, rn⟩ := T
  obtain ⟨lk, li, la⟩ := L
  have KT := Lib.hid hK
  have HFo := Lib.hid hF
  have HB0 := Lib.hid hb0
  unfold tkc at KT
  dsimp only at KT
  have HP := Lib.hid hP
  have HBb := Lib.hid hBb
  have HBs := Lib.hid hBs
  have HOK := Lib.hid hok
  have HST := Lib.hid hst
  clear hP hBb hBs hok hst
  clear hK hF hb0
  obtain ⟨kd, xi, xa⟩ := x
  dsimp only
  by_cases kq2 : kd = 2
  · have HS : Hid (stepA p ⟨id, tn, pg, pc, un, k0, k1, k2, k3, st, rn⟩ ⟨lk, li, la⟩ (kd, xi, xa) = doA p ⟨id, tn, pg, pc, un, k0, k1, k2, k3, st, rn⟩ ⟨lk, li, la⟩ xa) := Lib.hid (by unfold stepA; dsimp only; rw [if_pos kq2])
    have tk2 : (kd == 2) = true ∧ (kd != 2) = false := by constructor <;> (simp; omega)
    obtain ⟨tk2, tk2n⟩ := tk2
    clear kq2
    have GG : Hid (w.grownBy w (some b)) := Lib.hid (World.grownBy.refl _ _)
    go_enter Tryd.func44, Tryd.ntmps44
    have kn := Bk.new w 41 #[.int .i64 kd, .int .i64 xi, .int .i64 xa]
    have ba := (Below.refl w.heap.size w).alloc (Nat.le_refl _) (.cells #[.int .i64 kd, .int .i64 xi, .int .i64 xa] 41)
    have nt := Nat.ne_of_lt KT.out.lt
    replace GG := Lib.hid (gr_trans GG.out (gr_of ba _))
    replace KT := Lib.hid (KT.out.below ba KT.out.lt)
    replace HFo := Lib.hid (HFo.out.le ba)
    obtain ⟨gE, hg⟩ : ∃ g, w.heap.size = g := ⟨_, rfl⟩
    obtain ⟨V1, hW⟩ : ∃ W, w.alloc (.cells #[.int .i64 kd, .int .i64 xi, .int .i64 xa] 41) = W := ⟨_, rfl⟩
    have KE := Lib.hid kn
    rw [hW] at GG KT HFo KE
    rw [hg] at KE nt
    have HGE := Lib.hid hg
    have HWE := Lib.hid hW
    have NT_E := Lib.hid nt
    clear hW hg kn ba nt
    go_upto_region 1 with fail
    rw [HWE.out]
    try rw [HGE.out]
    clear HWE HGE
    obtain ⟨qE_0, qE_1, qE_2⟩ := KE.out.c3
    have lE := KE.out.lt
    go_wp2_with fail
    refine (do_tp b ⟨id, tn, pg, pc, un, k0, k1, k2, k3, st, rn⟩ ⟨lk, li, la⟩ xa _ A n c p B HBb.out (Nat.le_trans HBs.out GG.out.size) (fun w1 h => HP.out w1 ((gr_below GG.out HBb.out HBs.out).trans h)) HFo.out HB0.out KT.out HOK.out).mono ?_
    unfold StP
    rintro e U2 ⟨rfl, hu, gg⟩
    clear qE_0 qE_1 qE_2 lE
    replace GG := Lib.hid (gr_trans GG.out gg)
    have HU := Lib.hid hu
    clear hu gg
    go_wp2_with fail
    go_ret
    exact ⟨by rw [HS.out]; rfl, fun U q => HU.out U (by rw [← HS.out]; exact q), GG.out⟩
  · by_cases kq3 : kd = 3
    · have HS : Hid (stepA p ⟨id, tn, pg, pc, un, k0, k1, k2, k3, st, rn⟩ ⟨lk, li, la⟩ (kd, xi, xa) = holdA ⟨id, tn, pg, pc, un, k0, k1, k2, k3, st, rn⟩ ⟨lk, li, la⟩ xa) := Lib.hid (by unfold stepA; dsimp only; rw [if_neg kq2, if_pos kq3])
      have tk2 : (kd == 2) = false ∧ (kd != 2) = true := by constructor <;> (simp; omega)
      obtain ⟨tk2, tk2n⟩ := tk2
      have tk3 : (kd == 3) = true ∧ (kd != 3) = false := by constructor <;> (simp; omega)
      obtain ⟨tk3, tk3n⟩ := tk3
      clear kq2 kq3
      have GG : Hid (w.grownBy w (some b)) := Lib.hid (World.grownBy.refl _ _)
      go_enter Tryd.func44, Tryd.ntmps44
      have kn := Bk.new w 41 #[.int .i64 kd, .int .i64 xi, .int .i64 xa]
      have ba := (Below.refl w.heap.size w).alloc (Nat.le_refl _) (.cells #[.int .i64 kd, .int .i64 xi, .int .i64 xa] 41)
      have nt := Nat.ne_of_lt KT.out.lt
      replace GG := Lib.hid (gr_trans GG.out (gr_of ba _))
      replace KT := Lib.hid (KT.out.below ba KT.out.lt)
      replace HFo := Lib.hid (HFo.out.le ba)
      obtain ⟨gE, hg⟩ : ∃ g, w.heap.size = g := ⟨_, rfl⟩
      obtain ⟨V1, hW⟩ : ∃ W, w.alloc (.cells #[.int .i64 kd, .int .i64 xi, .int .i64 xa] 41) = W := ⟨_, rfl⟩
      have KE := Lib.hid kn
      rw [hW] at GG KT HFo KE
      rw [hg] at KE nt
      have HGE := Lib.hid hg
      have HWE := Lib.hid hW
      have NT_E := Lib.hid nt
      clear hW hg kn ba nt
      go_upto_region 1 with fail
      rw [HWE.out]
      try rw [HGE.out]
      clear HWE HGE
      obtain ⟨qE_0, qE_1, qE_2⟩ := KE.out.c3
      have lE := KE.out.lt
      go_wp2_with fail
      refine (hold_tp b ⟨id, tn, pg, pc, un, k0, k1, k2, k3, st, rn⟩ ⟨lk, li, la⟩ xa _ HFo.out HB0.out KT.out HOK.out HST.out).mono ?_
      unfold StP
      rintro e U2 ⟨rfl, hu, gg⟩
      clear qE_0 qE_1 qE_2 lE
      replace GG := Lib.hid (gr_trans GG.out gg)
      have HU := Lib.hid hu
      clear hu gg
      go_wp2_with fail
      go_ret
      exact ⟨by rw [HS.out]; rfl, fun U q => HU.out U (by rw [← HS.out]; exact q), GG.out⟩
    · by_cases kq4 : kd = 4
      · by_cases a0 : xa = 0
        · cases hw : wtB st
          · have HS : Hid (stepA p ⟨id, tn, pg, pc, un, k0, k1, k2, k3, st, rn⟩ ⟨lk, li, la⟩ (kd, xi, xa) = none) := Lib.hid (by unfold stepA; dsimp only; rw [if_neg kq2, if_neg kq3, if_pos kq4]; exact if_neg (fun q => by rw [hw] at q; cases q.1))
            have tk2 : (kd == 2) = false ∧ (kd != 2) = true := by constructor <;> (simp; omega)
            obtain ⟨tk2, tk2n⟩ := tk2
            have tk3 : (kd == 3) = false ∧ (kd != 3) = true := by constructor <;> (simp; omega)
            obtain ⟨tk3, tk3n⟩ := tk3
            have tk4 : (kd == 4) = true ∧ (kd != 4) = false := by constructor <;> (simp; omega)
            obtain ⟨tk4, tk4n⟩ := tk4
            have tx : (xa == 0) = true ∧ (xa != 0) = false := by constructor <;> (simp; omega)
            obtain ⟨tx, txn⟩ := tx
            clear a0
            have HW := Lib.hid hw
            clear hw
            clear kq2 kq3 kq4
            have GG : Hid (w.grownBy w (some b)) := Lib.hid (World.grownBy.refl _ _)
            go_enter Tryd.func44, Tryd.ntmps44
            have kn := Bk.new w 41 #[.int .i64 kd, .int .i64 xi, .int .i64 xa]
            have ba := (Below.refl w.heap.size w).alloc (Nat.le_refl _) (.cells #[.int .i64 kd, .int .i64 xi, .int .i64 xa] 41)
            have nt := Nat.ne_of_lt KT.out.lt
            replace GG := Lib.hid (gr_trans GG.out (gr_of ba _))
            replace KT := Lib.hid (KT.out.below ba KT.out.lt)
            replace HFo := Lib.hid (HFo.out.le ba)
            obtain ⟨gE, hg⟩ : ∃ g, w.heap.size = g := ⟨_, rfl⟩
            obtain ⟨V1, hW⟩ : ∃ W, w.alloc (.cells #[.int .i64 kd, .int .i64 xi, .int .i64 xa] 41) = W := ⟨_, rfl⟩
            have KE := Lib.hid kn
            rw [hW] at GG KT HFo KE
            rw [hg] at KE nt
            have HGE := Lib.hid hg
            have HWE := Lib.hid hW
            have NT_E := Lib.hid nt
            clear hW hg kn ba nt
            go_upto_region 1 with fail
            rw [HWE.out]
            try rw [HGE.out]
            clear HWE HGE
            obtain ⟨qE_0, qE_1, qE_2⟩ := KE.out.c3
            have lE := KE.out.lt
            obtain ⟨qT_0, qT_1, qT_2, qT_3, qT_4, qT_5, qT_6, qT_7, qT_8, qT_9, qT_10, qT_11, qT_12, qT_13⟩ := KT.out.c14t
            have lT := KT.out.lt
            go_wp2_with fail
            refine (wt_any st _).mono ?_
            rw [HW.out]
            rintro e w1 ⟨rfl, hw⟩
            have hw2 := hw.symm
            subst hw2
            clear hw
            go_wp2_with fail
            go_ret
            exact stp_no HS.out GG.out
          · have HS : Hid (stepA p ⟨id, tn, pg, pc, un, k0, k1, k2, k3, st, rn⟩ ⟨lk, li, la⟩ (kd, xi, xa) = some ⟨id, tn, pg, pc, un, k0, k1, k2, k3, 1, rn⟩) := Lib.hid (by unfold stepA; dsimp only; rw [if_neg kq2, if_neg kq3, if_pos kq4]; exact if_pos ⟨hw, a0⟩)
            have tk2 : (kd == 2) = false ∧ (kd != 2) = true := by constructor <;> (simp; omega)
            obtain ⟨tk2, tk2n⟩ := tk2
            have tk3 : (kd == 3) = false ∧ (kd != 3) = true := by constructor <;> (simp; omega)
            obtain ⟨tk3, tk3n⟩ := tk3
            have tk4 : (kd == 4) = true ∧ (kd != 4) = false := by constructor <;> (simp; omega)
            obtain ⟨tk4, tk4n⟩ := tk4
            have tx : (xa == 0) = true ∧ (xa != 0) = false := by constructor <;> (simp; omega)
            obtain ⟨tx, txn⟩ := tx
            clear a0
            have HM : Hid (moveR ⟨id, tn, pg, pc, un, k0, k1, k2, k3, st, rn⟩ 1 = (0, ⟨id, tn, pg, pc, un, k0, k1, k2, k3, 1, rn⟩)) := Lib.hid (mv_free HOK.out hw)
            have HW := Lib.hid hw
            clear hw
            clear kq2 kq3 kq4
            have GG : Hid (w.grownBy w (some b)) := Lib.hid (World.grownBy.refl _ _)
            go_enter Tryd.func44, Tryd.ntmps44
            have kn := Bk.new w 41 #[.int .i64 kd, .int .i64 xi, .int .i64 xa]
            have ba := (Below.refl w.heap.size w).alloc (Nat.le_refl _) (.cells #[.int .i64 kd, .int .i64 xi, .int .i64 xa] 41)
            have nt := Nat.ne_of_lt KT.out.lt
            replace GG := Lib.hid (gr_trans GG.out (gr_of ba _))
            replace KT := Lib.hid (KT.out.below ba KT.out.lt)
            replace HFo := Lib.hid (HFo.out.le ba)
            obtain ⟨gE, hg⟩ : ∃ g, w.heap.size = g := ⟨_, rfl⟩
            obtain ⟨V1, hW⟩ : ∃ W, w.alloc (.cells #[.int .i64 kd, .int .i64 xi, .int .i64 xa] 41) = W := ⟨_, rfl⟩
            have KE := Lib.hid kn
            rw [hW] at GG KT HFo KE
            rw [hg] at KE nt
            have HGE := Lib.hid hg
            have HWE := Lib.hid hW
            have NT_E := Lib.hid nt
            clear hW hg kn ba nt
            go_upto_region 1 with fail
            rw [HWE.out]
            try rw [HGE.out]
            clear HWE HGE
            obtain ⟨qE_0, qE_1, qE_2⟩ := KE.out.c3
            have lE := KE.out.lt
            obtain ⟨qT_0, qT_1, qT_2, qT_3, qT_4, qT_5, qT_6, qT_7, qT_8, qT_9, qT_10, qT_11, qT_12, qT_13⟩ := KT.out.c14t
            have lT := KT.out.lt
            go_wp2_with fail
            refine (wt_any st _).mono ?_
            rw [HW.out]
            rintro e w1 ⟨rfl, hw⟩
            have hw2 := hw.symm
            subst hw2
            clear hw
            go_wp2_with fail
            refine (move_yes b ⟨id, tn, pg, pc, un, k0, k1, k2, k3, st, rn⟩ ⟨id, tn, pg, pc, un, k0, k1, k2, k3, 1, rn⟩ ⟨lk, li, la⟩ 1 _ HFo.out HB0.out KT.out HM.out).mono ?_
            unfold TakP tkc
            try dsimp only
            rintro e U2 ⟨rfl, kt, gg⟩
            clear qE_0 qE_1 qE_2 lE qT_0 qT_1 qT_2 qT_3 qT_4 qT_5 qT_6 qT_7 qT_8 qT_9 qT_10 qT_11 qT_12 qT_13 lT
            replace HFo := Lib.hid (HFo.out.gr gg HB0.out)
            replace KE := Lib.hid (KE.out.grown gg (some_ne NT_E.out))
            have KT := Lib.hid kt
            replace GG := Lib.hid (gr_trans GG.out gg)
            clear kt gg
            go_wp2_with fail
            go_ret
            exact stp_yes HS.out KT.out GG.out
        · have HS : Hid (stepA p ⟨id, tn, pg, pc, un, k0, k1, k2, k3, st, rn⟩ ⟨lk, li, la⟩ (kd, xi, xa) = none) := Lib.hid (by unfold stepA; dsimp only; rw [if_neg kq2, if_neg kq3, if_pos kq4]; exact if_neg (fun q => a0 q.2))
          have tk2 : (kd == 2) = false ∧ (kd != 2) = true := by constructor <;> (simp; omega)
          obtain ⟨tk2, tk2n⟩ := tk2
          have tk3 : (kd == 3) = false ∧ (kd != 3) = true := by constructor <;> (simp; omega)
          obtain ⟨tk3, tk3n⟩ := tk3
          have tk4 : (kd == 4) = true ∧ (kd != 4) = false := by constructor <;> (simp; omega)
          obtain ⟨tk4, tk4n⟩ := tk4
          have tx : (xa == 0) = false ∧ (xa != 0) = true := by constructor <;> (simp; omega)
          obtain ⟨tx, txn⟩ := tx
          clear a0
          clear kq2 kq3 kq4
          have GG : Hid (w.grownBy w (some b)) := Lib.hid (World.grownBy.refl _ _)
          go_enter Tryd.func44, Tryd.ntmps44
          have kn := Bk.new w 41 #[.int .i64 kd, .int .i64 xi, .int .i64 xa]
          have ba := (Below.refl w.heap.size w).alloc (Nat.le_refl _) (.cells #[.int .i64 kd, .int .i64 xi, .int .i64 xa] 41)
          have nt := Nat.ne_of_lt KT.out.lt
          replace GG := Lib.hid (gr_trans GG.out (gr_of ba _))
          replace KT := Lib.hid (KT.out.below ba KT.out.lt)
          replace HFo := Lib.hid (HFo.out.le ba)
          obtain ⟨gE, hg⟩ : ∃ g, w.heap.size = g := ⟨_, rfl⟩
          obtain ⟨V1, hW⟩ : ∃ W, w.alloc (.cells #[.int .i64 kd, .int .i64 xi, .int .i64 xa] 41) = W := ⟨_, rfl⟩
          have KE := Lib.hid kn
          rw [hW] at GG KT HFo KE
          rw [hg] at KE nt
          have HGE := Lib.hid hg
          have HWE := Lib.hid hW
          have NT_E := Lib.hid nt
          clear hW hg kn ba nt
          go_upto_region 1 with fail
          rw [HWE.out]
          try rw [HGE.out]
          clear HWE HGE
          obtain ⟨qE_0, qE_1, qE_2⟩ := KE.out.c3
          have lE := KE.out.lt
          go_wp2_with fail
          go_ret
          exact stp_no HS.out GG.out
      · by_cases kq5 : kd = 5
        · by_cases a0 : xa = 0
          · by_cases hx : lk = 2 ∧ la = 9
            · have hs := HST.out hx.1
              dsimp only at hs
              have HS : Hid (stepA p ⟨id, tn, pg, pc, un, k0, k1, k2, k3, st, rn⟩ ⟨lk, li, la⟩ (kd, xi, xa) = some ⟨id, tn, pg, pc, un, k0, k1, k2, k3, 7, rn⟩) := Lib.hid (by unfold stepA; dsimp only; rw [if_neg kq2, if_neg kq3, if_neg kq4, if_pos kq5]; exact if_pos ⟨hs, hx.1, hx.2, a0⟩)
              have tk2 : (kd == 2) = false ∧ (kd != 2) = true := by constructor <;> (simp; omega)
              obtain ⟨tk2, tk2n⟩ := tk2
              have tk3 : (kd == 3) = false ∧ (kd != 3) = true := by constructor <;> (simp; omega)
              obtain ⟨tk3, tk3n⟩ := tk3
              have tk4 : (kd == 4) = false ∧ (kd != 4) = true := by constructor <;> (simp; omega)
              obtain ⟨tk4, tk4n⟩ := tk4
              have tk5 : (kd == 5) = true ∧ (kd != 5) = false := by constructor <;> (simp; omega)
              obtain ⟨tk5, tk5n⟩ := tk5
              have tx : (xa == 0) = true ∧ (xa != 0) = false := by constructor <;> (simp; omega)
              obtain ⟨tx, txn⟩ := tx
              clear a0
              have TX : Hid ((lk == 2 && la == 9) = true) := Lib.hid (by rw [hx.1, hx.2]; rfl)
              have HM : Hid (moveR ⟨id, tn, pg, pc, un, k0, k1, k2, k3, st, rn⟩ 7 = (0, ⟨id, tn, pg, pc, un, k0, k1, k2, k3, 7, rn⟩)) := Lib.hid (mv_over HOK.out (by dsimp only; omega))
              clear hx hs
              clear kq2 kq3 kq4 kq5
              have GG : Hid (w.grownBy w (some b)) := Lib.hid (World.grownBy.refl _ _)
              go_enter Tryd.func44, Tryd.ntmps44
              have kn := Bk.new w 41 #[.int .i64 kd, .int .i64 xi, .int .i64 xa]
              have ba := (Below.refl w.heap.size w).alloc (Nat.le_refl _) (.cells #[.int .i64 kd, .int .i64 xi, .int .i64 xa] 41)
              have nt := Nat.ne_of_lt KT.out.lt
              replace GG := Lib.hid (gr_trans GG.out (gr_of ba _))
              replace KT := Lib.hid (KT.out.below ba KT.out.lt)
              replace HFo := Lib.hid (HFo.out.le ba)
              obtain ⟨gE, hg⟩ : ∃ g, w.heap.size = g := ⟨_, rfl⟩
              obtain ⟨V1, hW⟩ : ∃ W, w.alloc (.cells #[.int .i64 kd, .int .i64 xi, .int .i64 xa] 41) = W := ⟨_, rfl⟩
              have KE := Lib.hid kn
              rw [hW] at GG KT HFo KE
              rw [hg] at KE nt
              have HGE := Lib.hid hg
              have HWE := Lib.hid hW
              have NT_E := Lib.hid nt
              clear hW hg kn ba nt
              go_upto_region 1 with fail
              rw [HWE.out]
              try rw [HGE.out]
              clear HWE HGE
              obtain ⟨qE_0, qE_1, qE_2⟩ := KE.out.c3
              have lE := KE.out.lt
              obtain ⟨qT_0, qT_1, qT_2, qT_3, qT_4, qT_5, qT_6, qT_7, qT_8, qT_9, qT_10, qT_11, qT_12, qT_13⟩ := KT.out.c14t
              have lT := KT.out.lt
              go_wp2_with fail
              refine (exited_tp b ⟨id, tn, pg, pc, un, k0, k1, k2, k3, st, rn⟩ ⟨lk, li, la⟩ _ KT.out).mono ?_
              dsimp only
              rw [TX.out]
              rintro e w1 ⟨rfl, hw⟩
              have hw2 := hw.symm
              subst hw2
              clear hw
              go_wp2_with fail
              refine (move_yes b ⟨id, tn, pg, pc, un, k0, k1, k2, k3, st, rn⟩ ⟨id, tn, pg, pc, un, k0, k1, k2, k3, 7, rn⟩ ⟨lk, li, la⟩ 7 _ HFo.out HB0.out KT.out HM.out).mono ?_
              unfold TakP tkc
              try dsimp only
              rintro e U2 ⟨rfl, kt, gg⟩
              clear qE_0 qE_1 qE_2 lE qT_0 qT_1 qT_2 qT_3 qT_4 qT_5 qT_6 qT_7 qT_8 qT_9 qT_10 qT_11 qT_12 qT_13 lT
              replace HFo := Lib.hid (HFo.out.gr gg HB0.out)
              replace KE := Lib.hid (KE.out.grown gg (some_ne NT_E.out))
              have KT := Lib.hid kt
              replace GG := Lib.hid (gr_trans GG.out gg)
              clear kt gg
              go_wp2_with fail
              go_ret
              exact stp_yes HS.out KT.out GG.out
            · have HS : Hid (stepA p ⟨id, tn, pg, pc, un, k0, k1, k2, k3, st, rn⟩ ⟨lk, li, la⟩ (kd, xi, xa) = none) := Lib.hid (by unfold stepA; dsimp only; rw [if_neg kq2, if_neg kq3, if_neg kq4, if_pos kq5]; exact if_neg (fun q => hx ⟨q.2.1, q.2.2.1⟩))
              have tk2 : (kd == 2) = false ∧ (kd != 2) = true := by constructor <;> (simp; omega)
              obtain ⟨tk2, tk2n⟩ := tk2
              have tk3 : (kd == 3) = false ∧ (kd != 3) = true := by constructor <;> (simp; omega)
              obtain ⟨tk3, tk3n⟩ := tk3
              have tk4 : (kd == 4) = false ∧ (kd != 4) = true := by constructor <;> (simp; omega)
              obtain ⟨tk4, tk4n⟩ := tk4
              have tk5 : (kd == 5) = true ∧ (kd != 5) = false := by constructor <;> (simp; omega)
              obtain ⟨tk5, tk5n⟩ := tk5
              have tx : (xa == 0) = true ∧ (xa != 0) = false := by constructor <;> (simp; omega)
              obtain ⟨tx, txn⟩ := tx
              clear a0
              have TX : Hid ((lk == 2 && la == 9) = false) := Lib.hid (by simpa using fun h => fun k => hx ⟨h, k⟩)
              clear hx
              clear kq2 kq3 kq4 kq5
              have GG : Hid (w.grownBy w (some b)) := Lib.hid (World.grownBy.refl _ _)
              go_enter Tryd.func44, Tryd.ntmps44
              have kn := Bk.new w 41 #[.int .i64 kd, .int .i64 xi, .int .i64 xa]
              have ba := (Below.refl w.heap.size w).alloc (Nat.le_refl _) (.cells #[.int .i64 kd, .int .i64 xi, .int .i64 xa] 41)
              have nt := Nat.ne_of_lt KT.out.lt
              replace GG := Lib.hid (gr_trans GG.out (gr_of ba _))
              replace KT := Lib.hid (KT.out.below ba KT.out.lt)
              replace HFo := Lib.hid (HFo.out.le ba)
              obtain ⟨gE, hg⟩ : ∃ g, w.heap.size = g := ⟨_, rfl⟩
              obtain ⟨V1, hW⟩ : ∃ W, w.alloc (.cells #[.int .i64 kd, .int .i64 xi, .int .i64 xa] 41) = W := ⟨_, rfl⟩
              have KE := Lib.hid kn
              rw [hW] at GG KT HFo KE
              rw [hg] at KE nt
              have HGE := Lib.hid hg
              have HWE := Lib.hid hW
              have NT_E := Lib.hid nt
              clear hW hg kn ba nt
              go_upto_region 1 with fail
              rw [HWE.out]
              try rw [HGE.out]
              clear HWE HGE
              obtain ⟨qE_0, qE_1, qE_2⟩ := KE.out.c3
              have lE := KE.out.lt
              obtain ⟨qT_0, qT_1, qT_2, qT_3, qT_4, qT_5, qT_6, qT_7, qT_8, qT_9, qT_10, qT_11, qT_12, qT_13⟩ := KT.out.c14t
              have lT := KT.out.lt
              go_wp2_with fail
              refine (exited_tp b ⟨id, tn, pg, pc, un, k0, k1, k2, k3, st, rn⟩ ⟨lk, li, la⟩ _ KT.out).mono ?_
              dsimp only
              rw [TX.out]
              rintro e w1 ⟨rfl, hw⟩
              have hw2 := hw.symm
              subst hw2
              clear hw
              go_wp2_with fail
              go_ret
              exact stp_no HS.out GG.out
          · have HS : Hid (stepA p ⟨id, tn, pg, pc, un, k0, k1, k2, k3, st, rn⟩ ⟨lk, li, la⟩ (kd, xi, xa) = none) := Lib.hid (by unfold stepA; dsimp only; rw [if_neg kq2, if_neg kq3, if_neg kq4, if_pos kq5]; exact if_neg (fun q => a0 q.2.2.2))
            have tk2 : (kd == 2) = false ∧ (kd != 2) = true := by constructor <;> (simp; omega)
            obtain ⟨tk2, tk2n⟩ := tk2
            have tk3 : (kd == 3) = false ∧ (kd != 3) = true := by constructor <;> (simp; omega)
            obtain ⟨tk3, tk3n⟩ := tk3
            have tk4 : (kd == 4) = false ∧ (kd != 4) = true := by constructor <;> (simp; omega)
            obtain ⟨tk4, tk4n⟩ := tk4
            have tk5 : (kd == 5) = true ∧ (kd != 5) = false := by constructor <;> (simp; omega)
            obtain ⟨tk5, tk5n⟩ := tk5
            have tx : (xa == 0) = false ∧ (xa != 0) = true := by constructor <;> (simp; omega)
            obtain ⟨tx, txn⟩ := tx
            clear a0
            clear kq2 kq3 kq4 kq5
            have GG : Hid (w.grownBy w (some b)) := Lib.hid (World.grownBy.refl _ _)
            go_enter Tryd.func44, Tryd.ntmps44
            have kn := Bk.new w 41 #[.int .i64 kd, .int .i64 xi, .int .i64 xa]
            have ba := (Below.refl w.heap.size w).alloc (Nat.le_refl _) (.cells #[.int .i64 kd, .int .i64 xi, .int .i64 xa] 41)
            have nt := Nat.ne_of_lt KT.out.lt
            replace GG := Lib.hid (gr_trans GG.out (gr_of ba _))
            replace KT := Lib.hid (KT.out.below ba KT.out.lt)
            replace HFo := Lib.hid (HFo.out.le ba)
            obtain ⟨gE, hg⟩ : ∃ g, w.heap.size = g := ⟨_, rfl⟩
            obtain ⟨V1, hW⟩ : ∃ W, w.alloc (.cells #[.int .i64 kd, .int .i64 xi, .int .i64 xa] 41) = W := ⟨_, rfl⟩
            have KE := Lib.hid kn
            rw [hW] at GG KT HFo KE
            rw [hg] at KE nt
            have HGE := Lib.hid hg
            have HWE := Lib.hid hW
            have NT_E := Lib.hid nt
            clear hW hg kn ba nt
            go_upto_region 1 with fail
            rw [HWE.out]
            try rw [HGE.out]
            clear HWE HGE
            obtain ⟨qE_0, qE_1, qE_2⟩ := KE.out.c3
            have lE := KE.out.lt
            go_wp2_with fail
            go_ret
            exact stp_no HS.out GG.out
        · by_cases kq6 : kd = 6
          · by_cases a0 : xa = 0
            · by_cases hs : st = 7
              · have HS : Hid (stepA p ⟨id, tn, pg, pc, un, k0, k1, k2, k3, st, rn⟩ ⟨lk, li, la⟩ (kd, xi, xa) = none) := Lib.hid (by unfold stepA; dsimp only; rw [if_neg kq2, if_neg kq3, if_neg kq4, if_neg kq5, if_pos kq6]; exact if_neg (fun q => q.1 hs))
                have tk2 : (kd == 2) = false ∧ (kd != 2) = true := by constructor <;> (simp; omega)
                obtain ⟨tk2, tk2n⟩ := tk2
                have tk3 : (kd == 3) = false ∧ (kd != 3) = true := by constructor <;> (simp; omega)
                obtain ⟨tk3, tk3n⟩ := tk3
                have tk4 : (kd == 4) = false ∧ (kd != 4) = true := by constructor <;> (simp; omega)
                obtain ⟨tk4, tk4n⟩ := tk4
                have tk5 : (kd == 5) = false ∧ (kd != 5) = true := by constructor <;> (simp; omega)
                obtain ⟨tk5, tk5n⟩ := tk5
                have tk6 : (kd == 6) = true ∧ (kd != 6) = false := by constructor <;> (simp; omega)
                obtain ⟨tk6, tk6n⟩ := tk6
                have tx : (xa == 0) = true ∧ (xa != 0) = false := by constructor <;> (simp; omega)
                obtain ⟨tx, txn⟩ := tx
                clear a0
                have HM : Hid ((moveR ⟨id, tn, pg, pc, un, k0, k1, k2, k3, st, rn⟩ 7).1 ≠ 0) := Lib.hid (mv_over_no hs)
                clear hs
                clear kq2 kq3 kq4 kq5 kq6
                have GG : Hid (w.grownBy w (some b)) := Lib.hid (World.grownBy.refl _ _)
                go_enter Tryd.func44, Tryd.ntmps44
                have kn := Bk.new w 41 #[.int .i64 kd, .int .i64 xi, .int .i64 xa]
                have ba := (Below.refl w.heap.size w).alloc (Nat.le_refl _) (.cells #[.int .i64 kd, .int .i64 xi, .int .i64 xa] 41)
                have nt := Nat.ne_of_lt KT.out.lt
                replace GG := Lib.hid (gr_trans GG.out (gr_of ba _))
                replace KT := Lib.hid (KT.out.below ba KT.out.lt)
                replace HFo := Lib.hid (HFo.out.le ba)
                obtain ⟨gE, hg⟩ : ∃ g, w.heap.size = g := ⟨_, rfl⟩
                obtain ⟨V1, hW⟩ : ∃ W, w.alloc (.cells #[.int .i64 kd, .int .i64 xi, .int .i64 xa] 41) = W := ⟨_, rfl⟩
                have KE := Lib.hid kn
                rw [hW] at GG KT HFo KE
                rw [hg] at KE nt
                have HGE := Lib.hid hg
                have HWE := Lib.hid hW
                have NT_E := Lib.hid nt
                clear hW hg kn ba nt
                go_upto_region 1 with fail
                rw [HWE.out]
                try rw [HGE.out]
                clear HWE HGE
                obtain ⟨qE_0, qE_1, qE_2⟩ := KE.out.c3
                have lE := KE.out.lt
                go_wp2_with fail
                refine (move_not b ⟨id, tn, pg, pc, un, k0, k1, k2, k3, st, rn⟩ ⟨lk, li, la⟩ 7 _ HFo.out HB0.out KT.out HM.out).mono ?_
                unfold TakP tkc
                try dsimp only
                rintro e U2 ⟨rfl, kt, gg⟩
                clear qE_0 qE_1 qE_2 lE
                replace HFo := Lib.hid (HFo.out.gr gg HB0.out)
                replace KE := Lib.hid (KE.out.grown gg (some_ne NT_E.out))
                have KT := Lib.hid kt
                replace GG := Lib.hid (gr_trans GG.out gg)
                clear kt gg
                go_wp2_with fail
                go_ret
                exact stp_no HS.out GG.out
              · have HS : Hid (stepA p ⟨id, tn, pg, pc, un, k0, k1, k2, k3, st, rn⟩ ⟨lk, li, la⟩ (kd, xi, xa) = some ⟨id, tn, pg, pc, un, k0, k1, k2, k3, 7, rn⟩) := Lib.hid (by unfold stepA; dsimp only; rw [if_neg kq2, if_neg kq3, if_neg kq4, if_neg kq5, if_pos kq6]; exact if_pos ⟨hs, a0⟩)
                have tk2 : (kd == 2) = false ∧ (kd != 2) = true := by constructor <;> (simp; omega)
                obtain ⟨tk2, tk2n⟩ := tk2
                have tk3 : (kd == 3) = false ∧ (kd != 3) = true := by constructor <;> (simp; omega)
                obtain ⟨tk3, tk3n⟩ := tk3
                have tk4 : (kd == 4) = false ∧ (kd != 4) = true := by constructor <;> (simp; omega)
                obtain ⟨tk4, tk4n⟩ := tk4
                have tk5 : (kd == 5) = false ∧ (kd != 5) = true := by constructor <;> (simp; omega)
                obtain ⟨tk5, tk5n⟩ := tk5
                have tk6 : (kd == 6) = true ∧ (kd != 6) = false := by constructor <;> (simp; omega)
                obtain ⟨tk6, tk6n⟩ := tk6
                have tx : (xa == 0) = true ∧ (xa != 0) = false := by constructor <;> (simp; omega)
                obtain ⟨tx, txn⟩ := tx
                clear a0
                have HM : Hid (moveR ⟨id, tn, pg, pc, un, k0, k1, k2, k3, st, rn⟩ 7 = (0, ⟨id, tn, pg, pc, un, k0, k1, k2, k3, 7, rn⟩)) := Lib.hid (mv_over HOK.out hs)
                clear hs
                clear kq2 kq3 kq4 kq5 kq6
                have GG : Hid (w.grownBy w (some b)) := Lib.hid (World.grownBy.refl _ _)
                go_enter Tryd.func44, Tryd.ntmps44
                have kn := Bk.new w 41 #[.int .i64 kd, .int .i64 xi, .int .i64 xa]
                have ba := (Below.refl w.heap.size w).alloc (Nat.le_refl _) (.cells #[.int .i64 kd, .int .i64 xi, .int .i64 xa] 41)
                have nt := Nat.ne_of_lt KT.out.lt
                replace GG := Lib.hid (gr_trans GG.out (gr_of ba _))
                replace KT := Lib.hid (KT.out.below ba KT.out.lt)
                replace HFo := Lib.hid (HFo.out.le ba)
                obtain ⟨gE, hg⟩ : ∃ g, w.heap.size = g := ⟨_, rfl⟩
                obtain ⟨V1, hW⟩ : ∃ W, w.alloc (.cells #[.int .i64 kd, .int .i64 xi, .int .i64 xa] 41) = W := ⟨_, rfl⟩
                have KE := Lib.hid kn
                rw [hW] at GG KT HFo KE
                rw [hg] at KE nt
                have HGE := Lib.hid hg
                have HWE := Lib.hid hW
                have NT_E := Lib.hid nt
                clear hW hg kn ba nt
                go_upto_region 1 with fail
                rw [HWE.out]
                try rw [HGE.out]
                clear HWE HGE
                obtain ⟨qE_0, qE_1, qE_2⟩ := KE.out.c3
                have lE := KE.out.lt
                go_wp2_with fail
                refine (move_yes b ⟨id, tn, pg, pc, un, k0, k1, k2, k3, st, rn⟩ ⟨id, tn, pg, pc, un, k0, k1, k2, k3, 7, rn⟩ ⟨lk, li, la⟩ 7 _ HFo.out HB0.out KT.out HM.out).mono ?_
                unfold TakP tkc
                try dsimp only
                rintro e U2 ⟨rfl, kt, gg⟩
                clear qE_0 qE_1 qE_2 lE
                replace HFo := Lib.hid (HFo.out.gr gg HB0.out)
                replace KE := Lib.hid (KE.out.grown gg (some_ne NT_E.out))
                have KT := Lib.hid kt
                replace GG := Lib.hid (gr_trans GG.out gg)
                clear kt gg
                go_wp2_with fail
                go_ret
                exact stp_yes HS.out KT.out GG.out
            · have HS : Hid (stepA p ⟨id, tn, pg, pc, un, k0, k1, k2, k3, st, rn⟩ ⟨lk, li, la⟩ (kd, xi, xa) = none) := Lib.hid (by unfold stepA; dsimp only; rw [if_neg kq2, if_neg kq3, if_neg kq4, if_neg kq5, if_pos kq6]; exact if_neg (fun q => a0 q.2))
              have tk2 : (kd == 2) = false ∧ (kd != 2) = true := by constructor <;> (simp; omega)
              obtain ⟨tk2, tk2n⟩ := tk2
              have tk3 : (kd == 3) = false ∧ (kd != 3) = true := by constructor <;> (simp; omega)
              obtain ⟨tk3, tk3n⟩ := tk3
              have tk4 : (kd == 4) = false ∧ (kd != 4) = true := by constructor <;> (simp; omega)
              obtain ⟨tk4, tk4n⟩ := tk4
              have tk5 : (kd == 5) = false ∧ (kd != 5) = true := by constructor <;> (simp; omega)
              obtain ⟨tk5, tk5n⟩ := tk5
              have tk6 : (kd == 6) = true ∧ (kd != 6) = false := by constructor <;> (simp; omega)
              obtain ⟨tk6, tk6n⟩ := tk6
              have tx : (xa == 0) = false ∧ (xa != 0) = true := by constructor <;> (simp; omega)
              obtain ⟨tx, txn⟩ := tx
              clear a0
              clear kq2 kq3 kq4 kq5 kq6
              have GG : Hid (w.grownBy w (some b)) := Lib.hid (World.grownBy.refl _ _)
              go_enter Tryd.func44, Tryd.ntmps44
              have kn := Bk.new w 41 #[.int .i64 kd, .int .i64 xi, .int .i64 xa]
              have ba := (Below.refl w.heap.size w).alloc (Nat.le_refl _) (.cells #[.int .i64 kd, .int .i64 xi, .int .i64 xa] 41)
              have nt := Nat.ne_of_lt KT.out.lt
              replace GG := Lib.hid (gr_trans GG.out (gr_of ba _))
              replace KT := Lib.hid (KT.out.below ba KT.out.lt)
              replace HFo := Lib.hid (HFo.out.le ba)
              obtain ⟨gE, hg⟩ : ∃ g, w.heap.size = g := ⟨_, rfl⟩
              obtain ⟨V1, hW⟩ : ∃ W, w.alloc (.cells #[.int .i64 kd, .int .i64 xi, .int .i64 xa] 41) = W := ⟨_, rfl⟩
              have KE := Lib.hid kn
              rw [hW] at GG KT HFo KE
              rw [hg] at KE nt
              have HGE := Lib.hid hg
              have HWE := Lib.hid hW
              have NT_E := Lib.hid nt
              clear hW hg kn ba nt
              go_upto_region 1 with fail
              rw [HWE.out]
              try rw [HGE.out]
              clear HWE HGE
              obtain ⟨qE_0, qE_1, qE_2⟩ := KE.out.c3
              have lE := KE.out.lt
              go_wp2_with fail
              go_ret
              exact stp_no HS.out GG.out
          · have HS : Hid (stepA p ⟨id, tn, pg, pc, un, k0, k1, k2, k3, st, rn⟩ ⟨lk, li, la⟩ (kd, xi, xa) = none) := Lib.hid (by unfold stepA; dsimp only; rw [if_neg kq2, if_neg kq3, if_neg kq4, if_neg kq5, if_neg kq6])
            have tk2 : (kd == 2) = false ∧ (kd != 2) = true := by constructor <;> (simp; omega)
            obtain ⟨tk2, tk2n⟩ := tk2
            have tk3 : (kd == 3) = false ∧ (kd != 3) = true := by constructor <;> (simp; omega)
            obtain ⟨tk3, tk3n⟩ := tk3
            have tk4 : (kd == 4) = false ∧ (kd != 4) = true := by constructor <;> (simp; omega)
            obtain ⟨tk4, tk4n⟩ := tk4
            have tk5 : (kd == 5) = false ∧ (kd != 5) = true := by constructor <;> (simp; omega)
            obtain ⟨tk5, tk5n⟩ := tk5
            have tk6 : (kd == 6) = false ∧ (kd != 6) = true := by constructor <;> (simp; omega)
            obtain ⟨tk6, tk6n⟩ := tk6
            clear kq2 kq3 kq4 kq5 kq6
            have GG : Hid (w.grownBy w (some b)) := Lib.hid (World.grownBy.refl _ _)
            go_enter Tryd.func44, Tryd.ntmps44
            have kn := Bk.new w 41 #[.int .i64 kd, .int .i64 xi, .int .i64 xa]
            have ba := (Below.refl w.heap.size w).alloc (Nat.le_refl _) (.cells #[.int .i64 kd, .int .i64 xi, .int .i64 xa] 41)
            have nt := Nat.ne_of_lt KT.out.lt
            replace GG := Lib.hid (gr_trans GG.out (gr_of ba _))
            replace KT := Lib.hid (KT.out.below ba KT.out.lt)
            replace HFo := Lib.hid (HFo.out.le ba)
            obtain ⟨gE, hg⟩ : ∃ g, w.heap.size = g := ⟨_, rfl⟩
            obtain ⟨V1, hW⟩ : ∃ W, w.alloc (.cells #[.int .i64 kd, .int .i64 xi, .int .i64 xa] 41) = W := ⟨_, rfl⟩
            have KE := Lib.hid kn
            rw [hW] at GG KT HFo KE
            rw [hg] at KE nt
            have HGE := Lib.hid hg
            have HWE := Lib.hid hW
            have NT_E := Lib.hid nt
            clear hW hg kn ba nt
            go_upto_region 1 with fail
            rw [HWE.out]
            try rw [HGE.out]
            clear HWE HGE
            obtain ⟨qE_0, qE_1, qE_2⟩ := KE.out.c3
            have lE := KE.out.lt
            go_wp2_with fail
            go_ret
            exact stp_no HS.out GG.out

end Go.Proofs.YtfhlligcbpnkkaaDoor

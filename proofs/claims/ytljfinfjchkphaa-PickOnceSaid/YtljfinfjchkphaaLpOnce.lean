/-
  The law PickOnce of layer 16, walked.
-/
import Derived.Test.YtljfinfjchkphaaPkm
namespace Go.Proofs.Ytljfinfjchkphaa
open Go.RowKit

set_option maxRecDepth 100000 in
set_option maxHeartbeats 8000000 in
theorem pickonce_any (A B : Option Addr) (N c n dh : Nat) (p me : Int) (bs hs : List Int) (w : World) (hm : N ≤ 9223372036854775807) (ho : N ≤ 140737488351232 → Octs w A N bs) (hh : Ints w B n hs) :
    Calls Try.prog 4 #[.agg #[.slice A N c, .int .i64 p], .slice B n dh, .int .i64 me] w (RetB (.bool true) w) := by
  have hh1 := hh.2.1
  by_cases g0 : 1000 < (N : Int)
  · replace g0 : decide (1000 < (N : Int)) = true := decide_eq_true g0
    obtain ⟨kb0, hb0⟩ := lay1 w #[.slice A N c, .int .i64 p] 24
    obtain ⟨V, hV⟩ : ∃ V, w.alloc (.cells #[.slice A N c, .int .i64 p] 24) = V := ⟨_, rfl⟩
    rw [hV] at hb0 kb0
    have HV := Lib.hid hV
    have BB := Lib.hid hb0
    have KD := Lib.hid kb0
    clear hV hb0 kb0
    go_enter Try.func4, Try.ntmps4
    go_upto_region 1 with fail
    rw [HV.out]
    clear HV
    go_wp2_with fail
    refine (live16_any _).mono ?_
    try dsimp only
    rintro e U1 ⟨rfl, bU1⟩
    replace KD := Lib.hid (KD.out.below bU1 KD.out.lt)
    replace BB := Lib.hid (below3 BB.out bU1)
    clear bU1
    have rKD_0 := KD.out.c0
    have rKD_1 := KD.out.c1
    have rKD_l := KD.out.lt
    go_wp2
    go_ret
    exact ⟨rfl, BB.out⟩
  · by_cases g1 : 100 < (n : Int)
    · replace g0 : decide (1000 < (N : Int)) = false := decide_eq_false g0
      replace g1 : decide (100 < (n : Int)) = true := decide_eq_true g1
      obtain ⟨kb0, hb0⟩ := lay1 w #[.slice A N c, .int .i64 p] 24
      obtain ⟨V, hV⟩ : ∃ V, w.alloc (.cells #[.slice A N c, .int .i64 p] 24) = V := ⟨_, rfl⟩
      rw [hV] at hb0 kb0
      have HV := Lib.hid hV
      have BB := Lib.hid hb0
      have KD := Lib.hid kb0
      clear hV hb0 kb0
      go_enter Try.func4, Try.ntmps4
      go_upto_region 1 with fail
      rw [HV.out]
      clear HV
      go_wp2_with fail
      refine (live16_any _).mono ?_
      try dsimp only
      rintro e U1 ⟨rfl, bU1⟩
      replace KD := Lib.hid (KD.out.below bU1 KD.out.lt)
      replace BB := Lib.hid (below3 BB.out bU1)
      clear bU1
      have rKD_0 := KD.out.c0
      have rKD_1 := KD.out.c1
      have rKD_l := KD.out.lt
      go_wp2
      go_ret
      exact ⟨rfl, BB.out⟩
    · have hN : N ≤ 1000 := by omega
      have hn100 : n ≤ 100 := by omega
      have ho1 := ho (by omega)
      have LH := Lib.hid hh.1
      clear ho
      replace g0 : decide (1000 < (N : Int)) = false := decide_eq_false g0
      replace g1 : decide (100 < (n : Int)) = false := decide_eq_false g1
      by_cases hok : okVPk N p n me
      · have HOK := Lib.hid hok
        have hv := vicPk_ok (bs := bs) hok
        rw [Int.toNat_natCast] at hv
        obtain ⟨vs, hvs⟩ : ∃ l, butPk (orderOf bs p.toNat n) me = l := ⟨_, rfl⟩
        obtain ⟨q, hm⟩ : ∃ m : Int, ((min (p.toNat + 2 * (n - 1)) N : Nat) : Int) = m := ⟨_, rfl⟩
        rw [hvs, hm] at hv
        obtain ⟨rs, hrs⟩ : ∃ l, bs = l := ⟨_, rfl⟩
        have HV : Hid (vicPk bs N p n me = (vs, rs, q, 0)) := Lib.hid (by rw [hv, hrs])
        have HRS := Lib.hid hrs
        have HVS := Lib.hid hvs
        have HM := Lib.hid hm
        have HI : Hid (∀ z, z ∈ vs → (0 ≤ z ∧ z < n) ∧ z ≠ me) := Lib.hid (fun z hz => by rw [← hvs] at hz; exact ⟨order_mem (but_memPk.1 hz).1, (but_memPk.1 hz).2⟩)
        have HND : Hid (vs.Nodup) := Lib.hid (by rw [← hvs]; exact but_nodupPk (order_nodup _ _ _) _)
        have hme : me ∈ orderOf bs p.toNat n := (order_perm bs p.toNat n).mem_iff.2 (mem_upto_pk hok.2.2.1 hok.2.2.2)
        have hone := but_oncePk (order_nodup bs p.toNat n) hme
        rw [hvs, order_len] at hone
        obtain ⟨nv, hnv⟩ : ∃ m, vs.length = m := ⟨_, rfl⟩
        rw [hnv] at hone
        have HNV := Lib.hid hnv
        obtain ⟨⟨x2, rs2, q2, e2⟩, hz⟩ : ∃ a, stealPk bs N hs n p me = a := ⟨_, rfl⟩
        have HS := Lib.hid hz
        have HNE := Lib.hid hone
        have hnv100 : nv ≤ 100 := by omega
        obtain ⟨i0, hi, hz0, hz1, hz2⟩ := info_parts Try.boolInfo
        have H_I := Lib.hid hi
        have HZ := Lib.hid hz0
        have HSZ := Lib.hid hz1
        have HB8 := Lib.hid hz2
        clear hi hz0 hz1 hz2 hz hok hv hvs hm hme hnv hrs hone
        obtain ⟨kb0, hb0⟩ := lay1 w #[.slice A N c, .int .i64 p] 24
        have OD := Lib.hid (ho1.below hb0)
        have IH := Lib.hid (hh.below hb0)
        obtain ⟨V, hV⟩ : ∃ V, w.alloc (.cells #[.slice A N c, .int .i64 p] 24) = V := ⟨_, rfl⟩
        rw [hV] at hb0 kb0 OD IH
        have HV := Lib.hid hV
        have BB := Lib.hid hb0
        have KD := Lib.hid kb0
        clear hV hb0 kb0
        go_enter Try.func4, Try.ntmps4
        go_upto_region 1 with fail
        rw [HV.out]
        clear HV
        go_wp2_with fail
        refine (live16_any _).mono ?_
        try dsimp only
        rintro e U1 ⟨rfl, bU1⟩
        replace KD := Lib.hid (KD.out.below bU1 KD.out.lt)
        replace OD := Lib.hid (OD.out.below bU1)
        replace IH := Lib.hid (IH.out.below bU1)
        replace BB := Lib.hid (below3 BB.out bU1)
        clear bU1
        have rKD_0 := KD.out.c0
        have rKD_1 := KD.out.c1
        have rKD_l := KD.out.lt
        go_upto_region 6 with fail
        clear rKD_0 rKD_1 rKD_l
        have rKD_0 := KD.out.c0
        have rKD_1 := KD.out.c1
        have rKD_l := KD.out.lt
        go_wp2_with fail
        refine (vic_any A N c p n me bs _ OD.out).mono ?_
        rw [HV.out]
        rintro e U2 ⟨A1, c1, B1, d1, he, oi, oo, bU2⟩
        dsimp only at he oi oo
        rw [HNV.out] at he
        subst he
        have I1 := Lib.hid (oi.intsN HNV.out)
        have O1 := Lib.hid oo.octs
        clear oi oo
        clear rKD_0 rKD_1 rKD_l
        replace KD := Lib.hid (KD.out.below bU2 KD.out.lt)
        replace OD := Lib.hid (OD.out.below bU2)
        replace IH := Lib.hid (IH.out.below bU2)
        replace BB := Lib.hid (below3 BB.out bU2)
        clear bU2
        have kt := Bk.new U2 24 #[.slice A1 rs.length c1, .int .i64 q]
        have ba := (Below.refl U2.heap.size U2).alloc (Nat.le_refl _) (.cells #[.slice A1 rs.length c1, .int .i64 q] 24)
        replace KD := Lib.hid (KD.out.below ba KD.out.lt)
        replace OD := Lib.hid (OD.out.below ba)
        replace IH := Lib.hid (IH.out.below ba)
        replace I1 := Lib.hid (I1.out.below ba)
        replace O1 := Lib.hid (O1.out.below ba)
        replace BB := Lib.hid (below3 BB.out ba)
        clear ba
        have K1 := Lib.hid kt
        clear kt
        obtain ⟨W3, hW⟩ : ∃ W, U2.alloc (.cells #[.slice A1 rs.length c1, .int .i64 q] 24) = W := ⟨_, rfl⟩
        rw [hW] at K1 BB KD OD IH I1 O1
        obtain ⟨gK1, hg⟩ : ∃ g, U2.heap.size = g := ⟨_, rfl⟩
        rw [hg] at K1
        have HW := Lib.hid hW
        have HG := Lib.hid hg
        clear hW hg
        go_upto_region 7 with fail
        rw [HW.out]
        try rw [HG.out]
        clear HW HG
        have rKD_0 := KD.out.c0
        have rKD_1 := KD.out.c1
        have rKD_l := KD.out.lt
        go_wp2_with fail
        refine (steal_any A B N c n dh p me bs hs _ OD.out IH.out).mono ?_
        rw [HS.out]
        rintro e U4 ⟨A2, c2, rfl, oo, bU4⟩
        dsimp only at oo ⊢
        have O2 := Lib.hid oo.octs
        clear oo
        clear rKD_0 rKD_1 rKD_l
        replace KD := Lib.hid (KD.out.below bU4 KD.out.lt)
        replace K1 := Lib.hid (K1.out.below bU4 K1.out.lt)
        replace OD := Lib.hid (OD.out.below bU4)
        replace IH := Lib.hid (IH.out.below bU4)
        replace I1 := Lib.hid (I1.out.below bU4)
        replace O1 := Lib.hid (O1.out.below bU4)
        replace BB := Lib.hid (below3 BB.out bU4)
        clear bU4
        have kt := Bk.new U4 24 #[.slice A2 rs2.length c2, .int .i64 q2]
        have ba := (Below.refl U4.heap.size U4).alloc (Nat.le_refl _) (.cells #[.slice A2 rs2.length c2, .int .i64 q2] 24)
        replace KD := Lib.hid (KD.out.below ba KD.out.lt)
        replace K1 := Lib.hid (K1.out.below ba K1.out.lt)
        replace OD := Lib.hid (OD.out.below ba)
        replace IH := Lib.hid (IH.out.below ba)
        replace I1 := Lib.hid (I1.out.below ba)
        replace O1 := Lib.hid (O1.out.below ba)
        replace O2 := Lib.hid (O2.out.below ba)
        replace BB := Lib.hid (below3 BB.out ba)
        clear ba
        have K2 := Lib.hid kt
        clear kt
        obtain ⟨W5, hW⟩ : ∃ W, U4.alloc (.cells #[.slice A2 rs2.length c2, .int .i64 q2] 24) = W := ⟨_, rfl⟩
        rw [hW] at K2 BB KD K1 OD IH I1 O1 O2
        obtain ⟨gK2, hg⟩ : ∃ g, U4.heap.size = g := ⟨_, rfl⟩
        rw [hg] at K2
        have HW := Lib.hid hW
        have HG := Lib.hid hg
        clear hW hg
        go_upto_region 8 with fail
        rw [HW.out]
        try rw [HG.out]
        clear HW HG
        go_wp2_with (at_make; refine wpList_make_full _ rfl _ _ 27 rfl W5.heap.size 4 i0 (.bool false) 1 Try.underlying27 H_I.out HZ.out HSZ.out .i64 .i64 _ _ n rfl rfl rfl rfl (by rw [HB8.out]; omega) (by unfold maxLen; omega) (Nat.le_refl _) ?_; intro w9 hown hgrow; have HW := Lib.hid hown; have HG := Lib.hid hgrow; clear hown hgrow)
        have B9 : Hid (Below W5.heap.size W5 w9) := Lib.hid ((Below.refl _ _).grown HG.out (Nat.le_refl _) (by simp))
        have M0 : Hid (OwnB 4 w9 W5.heap.size (some ⟨W5.heap.size, 0, none⟩) n (marks n (vs.take 0))) := Lib.hid (by rw [List.take_zero, marks_nil]; exact OwnB.falses HW.out)
        clear HW HG H_I HZ HSZ HB8
        go_loopw [69] (fun t wr => ∃ i : Nat, i ≤ nv ∧ t = .int .i64 i ∧ Hid (OwnB 4 wr W5.heap.size (some ⟨W5.heap.size, 0, none⟩) n (marks n (vs.take i))) ∧ Hid (Below W5.heap.size W5 wr)) (fun t _ => nv - (intOf t).toNat)
        case atStart => exact ⟨0, Nat.zero_le _, rfl, M0, B9⟩
        case round =>
          rename World => wr
          obtain ⟨i, hi, rfl, OW, BW⟩ := hrel
          by_cases hin : i < nv
          · obtain ⟨b, o, rfl, hb, c0⟩ := (I1.out.below BW.out).at_pk hin
            have hil : i < vs.length := by rw [HNV.out]; exact hin
            obtain ⟨z, hz⟩ : ∃ z, nth vs i = z := ⟨_, rfl⟩
            have hzi := HI.out z (nth_memPk.2 ⟨i, hil, hz⟩)
            have hfr := fresh HND.out hil
            obtain ⟨j, rfl⟩ := Int.eq_ofNat_of_zero_le hzi.1.1
            have hjn : j < n := by omega
            rw [hz] at c0 hfr
            obtain ⟨c2, f2⟩ := OW.out.at_ (j := j) (by rw [marks_len]; exact hjn)
            rw [marks_at hjn hfr] at c2
            have O1x : Hid (OwnB 4 (wr.setCell ⟨W5.heap.size, j, none⟩ (.bool true)) W5.heap.size (some ⟨W5.heap.size, 0, none⟩) n (marks n (vs.take (i + 1)))) := Lib.hid (by rw [take_nextPk hil, hz, ← marks_set]; exact OW.out.set_ j true)
            have B1x : Hid (Below W5.heap.size W5 (wr.setCell ⟨W5.heap.size, j, none⟩ (.bool true))) := Lib.hid (BW.out.setCell (p := ⟨W5.heap.size, j, none⟩) (Nat.le_refl _) _)
            have t0 : decide ((j : Int) < 0) = false := decide_eq_false (by omega)
            have t1 : decide (n ≤ j) = false := decide_eq_false (by omega)
            have t2 : ((j : Int) == me) = false := by simpa using hzi.2
            clear hz hzi hfr OW BW hil
            go_wp2
            go_roundw
            case rel => exact ⟨i + 1, by omega, by go_num, O1x, B1x⟩
            case measure => simp [intOf]; omega
          · obtain rfl : nv = i := by omega
            have hw : IntKind.i64.wrap ((n : Int) - 1) = (nv : Int) := by rw [IntKind.wrap_i64]; have := HNE.out; omega
            replace IH := Lib.hid (IH.out.below BW.out)
            replace I1 := Lib.hid (I1.out.below BW.out)
            replace O1 := Lib.hid (O1.out.below BW.out)
            replace O2 := Lib.hid (O2.out.below BW.out)
            replace K1 := Lib.hid (K1.out.below BW.out K1.out.lt)
            replace K2 := Lib.hid (K2.out.below BW.out K2.out.lt)
            replace BB := Lib.hid (below3 BB.out BW.out)
            clear OW BW M0 B9 OD KD
            have hnb := IH.out.2.1
            go_wp2
            go_loopw [104] (fun t wq => wr = wq ∧ ∃ k : Nat, k ≤ n ∧ t = .int .i64 k ∧ Hid (∀ j, j < k → ¬ nth hs j < 0)) (fun t _ => n - (intOf t).toNat)
            case atStart => exact ⟨rfl, 0, Nat.zero_le _, rfl, Lib.hid (fun i hi => by omega)⟩
            case round =>
              rename World => wr2
              obtain ⟨rfl, k, hk, rfl, OK⟩ := hrel
              by_cases hkn : k < n
              · obtain ⟨b, o, rfl, hb, c0⟩ := IH.out.at_pk hkn
                have hkl : k < hs.length := by rw [LH.out]; exact hkn
                obtain ⟨z, hz⟩ : ∃ z, nth hs k = z := ⟨_, rfl⟩
                rw [hz] at c0
                have HZ1 := Lib.hid hz
                clear hz
                by_cases hz0 : z < 0
                · have hS := HS.out.symm.trans (stealPk_1 (bs := bs) (fun q => by have := negPk_yes hkl (by rw [HZ1.out]; exact hz0); rw [q.2] at this; cases this))
                  simp only [Prod.mk.injEq] at hS
                  have he2 := hS.2.2.2
                  subst he2
                  have t0 : decide (z < 0) = true := decide_eq_true hz0
                  clear hz0 hS
                  go_wp2
                  go_ret
                  exact ⟨rfl, BB.out⟩
                · have OK2 : Hid (∀ j, j < k + 1 → ¬ nth hs j < 0) := Lib.hid (fun i hi => by
          by_cases e : i = k
          · subst e; rw [HZ1.out]; exact hz0
          · exact OK.out i (by omega))
                  have t0 : decide (z < 0) = false := decide_eq_false hz0
                  clear hz0 OK
                  go_wp2
                  go_roundw
                  case rel => exact ⟨trivial, k + 1, by omega, by go_num, OK2⟩
                  case measure => simp [intOf]; omega
              · have HN : Hid (negPk hs = false) := Lib.hid (negPk_no (fun j hj => OK.out j (by have := LH.out; omega)))
                clear OK
                go_wp2
                go_loopw [118] (fun t wq => wr = wq ∧ ∃ k : Nat, k ≤ nv ∧ t = .int .i64 k ∧ Hid (∀ j, j < k → hasPk hs (nth vs j) = false)) (fun t _ => nv - (intOf t).toNat)
                case atStart => exact ⟨rfl, 0, Nat.zero_le _, rfl, Lib.hid (fun i hi => by omega)⟩
                case round =>
                  rename World => wr3
                  obtain ⟨rfl, k2, hk2, rfl, OK2⟩ := hrel
                  by_cases hkn2 : k2 < nv
                  · obtain ⟨b, o, rfl, hb, c0⟩ := I1.out.at_pk hkn2
                    have hkl : k2 < vs.length := by rw [HNV.out]; exact hkn2
                    obtain ⟨z, hz⟩ : ∃ z, nth vs k2 = z := ⟨_, rfl⟩
                    rw [hz] at c0
                    have HZ1 := Lib.hid hz
                    have hzi := HI.out z (nth_memPk.2 ⟨k2, hkl, hz⟩)
                    obtain ⟨zn, rfl⟩ := Int.eq_ofNat_of_zero_le hzi.1.1
                    have hzn : zn < n := by omega
                    obtain ⟨b3, o3, rfl, hb3, c3⟩ := IH.out.at_pk hzn
                    obtain ⟨y, hy⟩ : ∃ y, nth hs zn = y := ⟨_, rfl⟩
                    rw [hy] at c3
                    have HY : Hid (hasPk hs (zn : Int) = decide (0 < y)) := Lib.hid (by unfold hasPk; rw [Int.toNat_natCast, hy])
                    clear hz hy hzi
                    by_cases hg : hasPk hs (zn : Int) = true
                    · have hS := HS.out.symm.trans (stealPk_0 (bs := bs) HOK.out HN.out (k := k2) (by rw [HVS.out]; exact hkl) (by rw [HVS.out, HZ1.out]; exact hg) (fun j hj => by rw [HVS.out]; exact OK2.out j hj))
                      rw [HVS.out, HM.out, HZ1.out] at hS
                      simp only [Prod.mk.injEq] at hS
                      obtain ⟨h1, h2, h3, h4⟩ := hS
                      have h5 := h2.trans HRS.out
                      subst h1 h3 h4 h5
                      have t0 : decide (0 < y) = true := by rw [← HY.out]; exact hg
                      clear hg HI h2
                      have a0 := K1.out.c0
                      have a1 := K1.out.c1
                      have b0 := K2.out.c0
                      have b1 := K2.out.c1
                      have al := K1.out.lt
                      have bl := K2.out.lt
                      go_wp2_with fail
                      refine (rsame_any _ _ _ _ _ _ _ _ _ _ _ O1.out O2.out).mono ?_
                      rw [dsame_refl]
                      rintro e w12 ⟨rfl, b12⟩
                      replace BB := Lib.hid (below3 BB.out b12)
                      clear b12 a0 a1 b0 b1 al bl
                      go_wp2
                      go_ret
                      exact ⟨rfl, BB.out⟩
                    · have OK3 : Hid (∀ j, j < k2 + 1 → hasPk hs (nth vs j) = false) := Lib.hid (fun i hi => by
            by_cases e : i = k2
            · subst e; rw [HZ1.out]; simpa using hg
            · exact OK2.out i (by omega))
                      have t0 : decide (0 < y) = false := by rw [← HY.out]; simpa using hg
                      clear hg OK2
                      go_wp2
                      go_roundw
                      case rel => exact ⟨trivial, k2 + 1, by omega, by go_num, OK3⟩
                      case measure => simp [intOf]; omega
                  · obtain rfl : nv = k2 := by omega
                    have hS := HS.out.symm.trans (stealPk_5 (bs := bs) HOK.out HN.out (by rw [HVS.out, HNV.out]; exact OK2.out))
                    simp only [Prod.mk.injEq] at hS
                    have he2 := hS.2.2.2
                    subst he2
                    clear hS HI
                    go_wp2
                    go_ret
                    exact ⟨rfl, BB.out⟩
      · have HV0 := Lib.hid (vicPk_no (bs := bs) hok)
        have HS : Hid (stealPk bs N hs n p me = (0, [], 0, 1)) := Lib.hid (stealPk_1 (fun q => hok q.1))
        obtain ⟨vs, hz⟩ : ∃ l : List Int, l = [] := ⟨_, rfl⟩
        obtain ⟨rs, hz2⟩ : ∃ l : List Int, l = [] := ⟨_, rfl⟩
        obtain ⟨q, hz3⟩ : ∃ l : Int, l = 0 := ⟨_, rfl⟩
        have HV : Hid (vicPk bs N p n me = (vs, rs, q, 1)) := Lib.hid (by rw [hz, hz2, hz3]; exact HV0.out)
        obtain ⟨nv, hz4⟩ : ∃ m, vs.length = m := ⟨_, rfl⟩
        have HNV := Lib.hid hz4
        have hnv : nv = 0 := by rw [← hz4, hz]; rfl
        subst hnv
        obtain ⟨rs2, hz5⟩ : ∃ l : List Int, l = [] := ⟨_, rfl⟩
        obtain ⟨q2, hz6⟩ : ∃ l : Int, l = 0 := ⟨_, rfl⟩
        rw [show (0, [], 0, 1) = ((0 : Int), rs2, q2, (1 : Int)) by rw [hz5, hz6]] at HS
        clear hok hz hz2 hz3 hz4 hz5 hz6 HV0
        obtain ⟨kb0, hb0⟩ := lay1 w #[.slice A N c, .int .i64 p] 24
        have OD := Lib.hid (ho1.below hb0)
        have IH := Lib.hid (hh.below hb0)
        obtain ⟨V, hV⟩ : ∃ V, w.alloc (.cells #[.slice A N c, .int .i64 p] 24) = V := ⟨_, rfl⟩
        rw [hV] at hb0 kb0 OD IH
        have HV := Lib.hid hV
        have BB := Lib.hid hb0
        have KD := Lib.hid kb0
        clear hV hb0 kb0
        go_enter Try.func4, Try.ntmps4
        go_upto_region 1 with fail
        rw [HV.out]
        clear HV
        go_wp2_with fail
        refine (live16_any _).mono ?_
        try dsimp only
        rintro e U1 ⟨rfl, bU1⟩
        replace KD := Lib.hid (KD.out.below bU1 KD.out.lt)
        replace OD := Lib.hid (OD.out.below bU1)
        replace IH := Lib.hid (IH.out.below bU1)
        replace BB := Lib.hid (below3 BB.out bU1)
        clear bU1
        have rKD_0 := KD.out.c0
        have rKD_1 := KD.out.c1
        have rKD_l := KD.out.lt
        go_upto_region 6 with fail
        clear rKD_0 rKD_1 rKD_l
        have rKD_0 := KD.out.c0
        have rKD_1 := KD.out.c1
        have rKD_l := KD.out.lt
        go_wp2_with fail
        refine (vic_any A N c p n me bs _ OD.out).mono ?_
        rw [HV.out]
        rintro e U2 ⟨A1, c1, B1, d1, he, oi, oo, bU2⟩
        dsimp only at he oi oo
        rw [HNV.out] at he
        subst he
        have I1 := Lib.hid (oi.intsN HNV.out)
        have O1 := Lib.hid oo.octs
        clear oi oo
        clear rKD_0 rKD_1 rKD_l
        replace KD := Lib.hid (KD.out.below bU2 KD.out.lt)
        replace OD := Lib.hid (OD.out.below bU2)
        replace IH := Lib.hid (IH.out.below bU2)
        replace BB := Lib.hid (below3 BB.out bU2)
        clear bU2
        have kt := Bk.new U2 24 #[.slice A1 rs.length c1, .int .i64 q]
        have ba := (Below.refl U2.heap.size U2).alloc (Nat.le_refl _) (.cells #[.slice A1 rs.length c1, .int .i64 q] 24)
        replace KD := Lib.hid (KD.out.below ba KD.out.lt)
        replace OD := Lib.hid (OD.out.below ba)
        replace IH := Lib.hid (IH.out.below ba)
        replace I1 := Lib.hid (I1.out.below ba)
        replace O1 := Lib.hid (O1.out.below ba)
        replace BB := Lib.hid (below3 BB.out ba)
        clear ba
        have K1 := Lib.hid kt
        clear kt
        obtain ⟨W3, hW⟩ : ∃ W, U2.alloc (.cells #[.slice A1 rs.length c1, .int .i64 q] 24) = W := ⟨_, rfl⟩
        rw [hW] at K1 BB KD OD IH I1 O1
        obtain ⟨gK1, hg⟩ : ∃ g, U2.heap.size = g := ⟨_, rfl⟩
        rw [hg] at K1
        have HW := Lib.hid hW
        have HG := Lib.hid hg
        clear hW hg
        go_upto_region 7 with fail
        rw [HW.out]
        try rw [HG.out]
        clear HW HG
        have rKD_0 := KD.out.c0
        have rKD_1 := KD.out.c1
        have rKD_l := KD.out.lt
        go_wp2_with fail
        refine (steal_any A B N c n dh p me bs hs _ OD.out IH.out).mono ?_
        rw [HS.out]
        rintro e U4 ⟨A2, c2, rfl, oo, bU4⟩
        dsimp only at oo ⊢
        have O2 := Lib.hid oo.octs
        clear oo
        clear rKD_0 rKD_1 rKD_l
        replace KD := Lib.hid (KD.out.below bU4 KD.out.lt)
        replace K1 := Lib.hid (K1.out.below bU4 K1.out.lt)
        replace OD := Lib.hid (OD.out.below bU4)
        replace IH := Lib.hid (IH.out.below bU4)
        replace I1 := Lib.hid (I1.out.below bU4)
        replace O1 := Lib.hid (O1.out.below bU4)
        replace BB := Lib.hid (below3 BB.out bU4)
        clear bU4
        have kt := Bk.new U4 24 #[.slice A2 rs2.length c2, .int .i64 q2]
        have ba := (Below.refl U4.heap.size U4).alloc (Nat.le_refl _) (.cells #[.slice A2 rs2.length c2, .int .i64 q2] 24)
        replace KD := Lib.hid (KD.out.below ba KD.out.lt)
        replace K1 := Lib.hid (K1.out.below ba K1.out.lt)
        replace OD := Lib.hid (OD.out.below ba)
        replace IH := Lib.hid (IH.out.below ba)
        replace I1 := Lib.hid (I1.out.below ba)
        replace O1 := Lib.hid (O1.out.below ba)
        replace O2 := Lib.hid (O2.out.below ba)
        replace BB := Lib.hid (below3 BB.out ba)
        clear ba
        have K2 := Lib.hid kt
        clear kt
        obtain ⟨W5, hW⟩ : ∃ W, U4.alloc (.cells #[.slice A2 rs2.length c2, .int .i64 q2] 24) = W := ⟨_, rfl⟩
        rw [hW] at K2 BB KD K1 OD IH I1 O1 O2
        obtain ⟨gK2, hg⟩ : ∃ g, U4.heap.size = g := ⟨_, rfl⟩
        rw [hg] at K2
        have HW := Lib.hid hW
        have HG := Lib.hid hg
        clear hW hg
        go_upto_region 8 with fail
        rw [HW.out]
        try rw [HG.out]
        clear HW HG
        go_wp2
        go_ret
        exact ⟨rfl, BB.out⟩

end Go.Proofs.Ytljfinfjchkphaa

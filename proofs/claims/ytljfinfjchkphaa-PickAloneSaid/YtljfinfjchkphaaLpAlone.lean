/-
  The law PickAlone of layer 16, walked.
-/
import Derived.Test.YtljfinfjchkphaaPkm
namespace Go.Proofs.Ytljfinfjchkphaa
open Go.RowKit

set_option maxRecDepth 100000 in
set_option maxHeartbeats 8000000 in
theorem pickalone_any (A B E : Option Addr) (N c n dh m de : Nat) (p me : Int) (bs hs ms : List Int) (w : World) (hm : N ≤ 9223372036854775807) (ho : N ≤ 140737488351232 → Octs w A N bs) (hh : Ints w B n hs) (hmm : Ints w E m ms) :
    Calls Try.prog 7 #[.agg #[.slice A N c, .int .i64 p], .slice B n dh, .slice E m de, .int .i64 me] w (RetB (.bool true) w) := by
  have hh1 := hh.2.1
  have hm1 := hmm.2.1
  by_cases g0 : 1000 < (N : Int)
  · replace g0 : decide (1000 < (N : Int)) = true := decide_eq_true g0
    obtain ⟨kb0, hb0⟩ := lay1 w #[.slice A N c, .int .i64 p] 24
    obtain ⟨V, hV⟩ : ∃ V, w.alloc (.cells #[.slice A N c, .int .i64 p] 24) = V := ⟨_, rfl⟩
    rw [hV] at hb0 kb0
    have HV := Lib.hid hV
    have BB := Lib.hid hb0
    have KD := Lib.hid kb0
    clear hV hb0 kb0
    go_enter Try.func7, Try.ntmps7
    go_upto_region 1 with fail
    rw [HV.out]
    clear HV
    go_wp2_with fail
    refine (live16_any _).mono ?_
    try dsimp only
    rintro e U1 ⟨rfl, bU1⟩
    replace KD := Lib.hid (KD.out.below bU1 KD.out.lt)
    replace BB := Lib.hid (below3 BB.out bU1)
    clear bU1
    have rKD_0 := KD.out.c0
    have rKD_1 := KD.out.c1
    have rKD_l := KD.out.lt
    go_wp2
    go_ret
    exact ⟨rfl, BB.out⟩
  · by_cases g1 : 60 < (n : Int)
    · replace g0 : decide (1000 < (N : Int)) = false := decide_eq_false g0
      replace g1 : decide (60 < (n : Int)) = true := decide_eq_true g1
      obtain ⟨kb0, hb0⟩ := lay1 w #[.slice A N c, .int .i64 p] 24
      obtain ⟨V, hV⟩ : ∃ V, w.alloc (.cells #[.slice A N c, .int .i64 p] 24) = V := ⟨_, rfl⟩
      rw [hV] at hb0 kb0
      have HV := Lib.hid hV
      have BB := Lib.hid hb0
      have KD := Lib.hid kb0
      clear hV hb0 kb0
      go_enter Try.func7, Try.ntmps7
      go_upto_region 1 with fail
      rw [HV.out]
      clear HV
      go_wp2_with fail
      refine (live16_any _).mono ?_
      try dsimp only
      rintro e U1 ⟨rfl, bU1⟩
      replace KD := Lib.hid (KD.out.below bU1 KD.out.lt)
      replace BB := Lib.hid (below3 BB.out bU1)
      clear bU1
      have rKD_0 := KD.out.c0
      have rKD_1 := KD.out.c1
      have rKD_l := KD.out.lt
      go_wp2
      go_ret
      exact ⟨rfl, BB.out⟩
    · by_cases g2 : m < n
      · replace g0 : decide (1000 < (N : Int)) = false := decide_eq_false g0
        replace g1 : decide (60 < (n : Int)) = false := decide_eq_false g1
        replace g2 : decide (m < n) = true := decide_eq_true g2
        obtain ⟨kb0, hb0⟩ := lay1 w #[.slice A N c, .int .i64 p] 24
        obtain ⟨V, hV⟩ : ∃ V, w.alloc (.cells #[.slice A N c, .int .i64 p] 24) = V := ⟨_, rfl⟩
        rw [hV] at hb0 kb0
        have HV := Lib.hid hV
        have BB := Lib.hid hb0
        have KD := Lib.hid kb0
        clear hV hb0 kb0
        go_enter Try.func7, Try.ntmps7
        go_upto_region 1 with fail
        rw [HV.out]
        clear HV
        go_wp2_with fail
        refine (live16_any _).mono ?_
        try dsimp only
        rintro e U1 ⟨rfl, bU1⟩
        replace KD := Lib.hid (KD.out.below bU1 KD.out.lt)
        replace BB := Lib.hid (below3 BB.out bU1)
        clear bU1
        have rKD_0 := KD.out.c0
        have rKD_1 := KD.out.c1
        have rKD_l := KD.out.lt
        go_wp2
        go_ret
        exact ⟨rfl, BB.out⟩
      · have hN : N ≤ 1000 := by omega
        have hn60 : n ≤ 60 := by omega
        have hnm : n ≤ m := by omega
        have ho1 := ho (by omega)
        have HO0 := Lib.hid ho1
        have HH0 := Lib.hid hh
        have HM0 := Lib.hid hmm
        have LH := Lib.hid hh.1
        clear ho
        replace g0 : decide (1000 < (N : Int)) = false := decide_eq_false g0
        replace g1 : decide (60 < (n : Int)) = false := decide_eq_false g1
        replace g2 : decide (m < n) = false := decide_eq_false g2
        obtain ⟨⟨x2, rs2, q2, e2⟩, hz⟩ : ∃ a, stealPk bs N hs n p me = a := ⟨_, rfl⟩
        have HS := Lib.hid hz
        clear hz
        obtain ⟨i0, hi, hz0, hz1, hz2⟩ := info_parts Try.intInfo
        have HI := Lib.hid hi
        have HZ := Lib.hid hz0
        have HSZ := Lib.hid hz1
        have HB8 := Lib.hid hz2
        clear hi hz0 hz1 hz2 ho1 hh hmm
        obtain ⟨kb0, hb0⟩ := lay1 w #[.slice A N c, .int .i64 p] 24
        obtain ⟨V, hV⟩ : ∃ V, w.alloc (.cells #[.slice A N c, .int .i64 p] 24) = V := ⟨_, rfl⟩
        rw [hV] at hb0 kb0
        have HV := Lib.hid hV
        have BB := Lib.hid hb0
        have KD := Lib.hid kb0
        clear hV hb0 kb0
        go_enter Try.func7, Try.ntmps7
        go_upto_region 1 with fail
        rw [HV.out]
        clear HV
        go_wp2_with fail
        refine (live16_any _).mono ?_
        try dsimp only
        rintro e U1 ⟨rfl, bU1⟩
        replace KD := Lib.hid (KD.out.below bU1 KD.out.lt)
        replace BB := Lib.hid (below3 BB.out bU1)
        clear bU1
        have rKD_0 := KD.out.c0
        have rKD_1 := KD.out.c1
        have rKD_l := KD.out.lt
        go_upto_region 6 with fail
        clear rKD_0 rKD_1 rKD_l
        go_wp2_with (at_make; refine wpList_make_full _ rfl _ _ 25 rfl U1.heap.size 3 i0 (.int .i64 0) 1 Try.underlying25 HI.out HZ.out HSZ.out .i64 .i64 _ _ n rfl rfl rfl rfl (by rw [HB8.out]; omega) (by unfold maxLen; omega) (Nat.le_refl _) ?_; intro w3 hown hgrow; have HW := Lib.hid hown; have HG := Lib.hid hgrow; clear hown hgrow)
        have O0 : Hid (OwnI 3 w3 U1.heap.size (some ⟨U1.heap.size, 0, none⟩) n (othPk hs ms n 0)) := Lib.hid (by rw [othPk_0]; exact OwnI.zeros (by omega) HW.out)
        have B0 : Hid (Below w.heap.size w w3) := Lib.hid (BB.out.grown HG.out BB.out.size (by simp))
        have K0 : Hid (Bk w3 w.heap.size 24 #[.slice A N c, .int .i64 p]) := Lib.hid (KD.out.grown HG.out (by simp))
        have HGL := Lib.hid KD.out.lt
        clear HW HG HI HZ HSZ HB8 KD BB
        generalize U1.heap.size = G at O0 HGL ⊢
        go_loopw [44] (fun t wr => ∃ i : Nat, i ≤ n ∧ t = .int .i64 i ∧ Hid (OwnI 3 wr G (some ⟨G, 0, none⟩) n (othPk hs ms n i)) ∧ Hid (Below w.heap.size w wr) ∧ Hid (Bk wr w.heap.size 24 #[.slice A N c, .int .i64 p]) ∧ Hid (∀ j, j < i → ¬ nth hs j < 0)) (fun t _ => n - (intOf t).toNat)
        case atStart => exact ⟨0, Nat.zero_le _, rfl, O0, B0, K0, Lib.hid (fun j hj => by omega)⟩
        case round =>
          rename World => wr
          obtain ⟨i, hi, rfl, OW, BW, KW, OK⟩ := hrel
          by_cases hin : i < n
          · obtain ⟨b, o, rfl, hb, c0⟩ := (HH0.out.below BW.out).at_pk hin
            obtain ⟨z, hz⟩ : ∃ z, nth hs i = z := ⟨_, rfl⟩
            rw [hz] at c0
            have HZ1 := Lib.hid hz
            clear hz
            by_cases hz0 : z < 0
            · have t0 : decide (z < 0) = true := decide_eq_true hz0
              have HBF := Lib.hid BW.out
              clear OW BW KW hz0
              go_wp2
              go_ret
              exact ⟨rfl, HBF.out⟩
            · have OK2 : Hid (∀ j, j < i + 1 → ¬ nth hs j < 0) := Lib.hid (fun j hj => by
        by_cases e : j = i
        · subst e; rw [HZ1.out]; exact hz0
        · exact OK.out j (by omega))
              have t0 : decide (z < 0) = false := decide_eq_false hz0
              clear hz0
              by_cases hz1 : 0 < z
              · have him : i < m := by omega
                obtain ⟨bm, om, rfl, hbm, cm⟩ := (HM0.out.below BW.out).at_pk him
                have fy := HM0.out.fit_pk him
                obtain ⟨y, hy⟩ : ∃ y, nth ms i = y := ⟨_, rfl⟩
                rw [hy] at cm fy
                obtain ⟨ci, fi⟩ := OW.out.at_ (j := i) (by rw [othPk_len]; exact hin)
                obtain ⟨old, hold⟩ : ∃ x, nth (othPk hs ms n i) i = x := ⟨_, rfl⟩
                rw [hold] at ci
                obtain ⟨v, hv⟩ : ∃ v, max y 1 = v := ⟨_, rfl⟩
                have fv : Fit v := by rw [← hv]; unfold Fit at fy ⊢; omega
                have O1 : Hid (OwnI 3 (wr.setCell ⟨G, i, none⟩ (.int .i64 v)) G (some ⟨G, 0, none⟩) n (othPk hs ms n (i + 1))) := Lib.hid (by rw [othPk_yes (by rw [HZ1.out]; exact hz1), hy, hv]; exact OW.out.set_ i fv)
                have B1 : Hid (Below w.heap.size w (wr.setCell ⟨G, i, none⟩ (.int .i64 v))) := Lib.hid (BW.out.setCell (p := ⟨G, i, none⟩) (Nat.le_of_lt HGL.out) _)
                have K1 : Hid (Bk (wr.setCell ⟨G, i, none⟩ (.int .i64 v)) w.heap.size 24 #[.slice A N c, .int .i64 p]) := Lib.hid (KW.out.far (p := ⟨G, i, none⟩) (Nat.ne_of_lt HGL.out) _)
                have t1 : decide (0 < z) = true := decide_eq_true hz1
                have hGl := OW.out.lt
                have hmx : (max y 1 : Int) = v := hv
                clear OW OK hz1 BW KW hy hold fv fy
                go_wp2
                go_roundw
                case rel => exact ⟨i + 1, by omega, by go_num, O1, B1, K1, OK2⟩
                case measure => simp [intOf]; omega
              · have O1 : Hid (OwnI 3 wr G (some ⟨G, 0, none⟩) n (othPk hs ms n (i + 1))) := Lib.hid (by rw [othPk_no (by rw [HZ1.out]; exact hz1)]; exact OW.out)
                have t1 : decide (0 < z) = false := decide_eq_false hz1
                clear OW OK hz1
                go_wp2
                go_roundw
                case rel => exact ⟨i + 1, by omega, by go_num, O1, BW, KW, OK2⟩
                case measure => simp [intOf]; omega
          · obtain rfl : n = i := by omega
            have HQ := Lib.hid (oth_stealPk (bs := bs) (N := N) (ms := ms) (p := p) (me := me) LH.out (fun j hj => OK.out j hj))
            have IH := Lib.hid (HH0.out.below BW.out)
            have OD := Lib.hid (HO0.out.below BW.out)
            have IO := Lib.hid (OW.out.intsN (othPk_len _ _ _ _))
            have KD := KW
            have BB := BW
            clear OW BW KW OK O0 B0 K0
            rw [HS.out] at HQ
            have rKD_0 := KD.out.c0
            have rKD_1 := KD.out.c1
            have rKD_l := KD.out.lt
            go_wp2_with fail
            refine (steal_any A _ N c n dh p me bs hs _ OD.out IH.out).mono ?_
            rw [HS.out]
            rintro e U6 ⟨A3, c3, rfl, oo, bU6⟩
            dsimp only at oo ⊢
            have O3 := Lib.hid oo.octs
            clear oo
            clear rKD_0 rKD_1 rKD_l
            replace KD := Lib.hid (KD.out.below bU6 KD.out.lt)
            replace IH := Lib.hid (IH.out.below bU6)
            replace OD := Lib.hid (OD.out.below bU6)
            replace IO := Lib.hid (IO.out.below bU6)
            replace BB := Lib.hid (below3 BB.out bU6)
            clear bU6
            have kt := Bk.new U6 24 #[.slice A3 rs2.length c3, .int .i64 q2]
            have ba := (Below.refl U6.heap.size U6).alloc (Nat.le_refl _) (.cells #[.slice A3 rs2.length c3, .int .i64 q2] 24)
            replace KD := Lib.hid (KD.out.below ba KD.out.lt)
            replace IH := Lib.hid (IH.out.below ba)
            replace OD := Lib.hid (OD.out.below ba)
            replace IO := Lib.hid (IO.out.below ba)
            replace O3 := Lib.hid (O3.out.below ba)
            replace BB := Lib.hid (below3 BB.out ba)
            clear ba
            have K3 := Lib.hid kt
            clear kt
            obtain ⟨W7, hW⟩ : ∃ W, U6.alloc (.cells #[.slice A3 rs2.length c3, .int .i64 q2] 24) = W := ⟨_, rfl⟩
            rw [hW] at K3 BB KD IH OD IO O3
            obtain ⟨gK3, hg⟩ : ∃ g, U6.heap.size = g := ⟨_, rfl⟩
            rw [hg] at K3
            have HW := Lib.hid hW
            have HG := Lib.hid hg
            clear hW hg
            go_upto_region 16 with fail
            rw [HW.out]
            try rw [HG.out]
            clear HW HG
            have rKD_0 := KD.out.c0
            have rKD_1 := KD.out.c1
            have rKD_l := KD.out.lt
            go_wp2_with fail
            refine (steal_any A _ N c n n p me bs _ _ OD.out IO.out).mono ?_
            rw [HQ.out]
            rintro e U8 ⟨A4, c4, rfl, oo, bU8⟩
            dsimp only at oo ⊢
            have O4 := Lib.hid oo.octs
            clear oo
            clear rKD_0 rKD_1 rKD_l
            replace KD := Lib.hid (KD.out.below bU8 KD.out.lt)
            replace K3 := Lib.hid (K3.out.below bU8 K3.out.lt)
            replace IH := Lib.hid (IH.out.below bU8)
            replace OD := Lib.hid (OD.out.below bU8)
            replace IO := Lib.hid (IO.out.below bU8)
            replace O3 := Lib.hid (O3.out.below bU8)
            replace BB := Lib.hid (below3 BB.out bU8)
            clear bU8
            have kt := Bk.new U8 24 #[.slice A4 rs2.length c4, .int .i64 q2]
            have ba := (Below.refl U8.heap.size U8).alloc (Nat.le_refl _) (.cells #[.slice A4 rs2.length c4, .int .i64 q2] 24)
            replace KD := Lib.hid (KD.out.below ba KD.out.lt)
            replace K3 := Lib.hid (K3.out.below ba K3.out.lt)
            replace IH := Lib.hid (IH.out.below ba)
            replace OD := Lib.hid (OD.out.below ba)
            replace IO := Lib.hid (IO.out.below ba)
            replace O3 := Lib.hid (O3.out.below ba)
            replace O4 := Lib.hid (O4.out.below ba)
            replace BB := Lib.hid (below3 BB.out ba)
            clear ba
            have K4 := Lib.hid kt
            clear kt
            obtain ⟨W9, hW⟩ : ∃ W, U8.alloc (.cells #[.slice A4 rs2.length c4, .int .i64 q2] 24) = W := ⟨_, rfl⟩
            rw [hW] at K4 BB KD K3 IH OD IO O3 O4
            obtain ⟨gK4, hg⟩ : ∃ g, U8.heap.size = g := ⟨_, rfl⟩
            rw [hg] at K4
            have HW := Lib.hid hW
            have HG := Lib.hid hg
            clear hW hg
            go_upto_region 17 with fail
            rw [HW.out]
            try rw [HG.out]
            clear HW HG
            have rK3_0 := K3.out.c0
            have rK3_1 := K3.out.c1
            have rK3_l := K3.out.lt
            have rK4_0 := K4.out.c0
            have rK4_1 := K4.out.c1
            have rK4_l := K4.out.lt
            go_wp2_with fail
            refine (rsame_any A3 A4 rs2.length rs2.length c3 c4 q2 q2 rs2 rs2 _ O3.out O4.out).mono ?_
            rw [dsame_refl]
            try dsimp only
            rintro e U10 ⟨rfl, bU10⟩
            replace KD := Lib.hid (KD.out.below bU10 KD.out.lt)
            replace K3 := Lib.hid (K3.out.below bU10 K3.out.lt)
            replace K4 := Lib.hid (K4.out.below bU10 K4.out.lt)
            replace IH := Lib.hid (IH.out.below bU10)
            replace OD := Lib.hid (OD.out.below bU10)
            replace IO := Lib.hid (IO.out.below bU10)
            replace O3 := Lib.hid (O3.out.below bU10)
            replace O4 := Lib.hid (O4.out.below bU10)
            replace BB := Lib.hid (below3 BB.out bU10)
            clear bU10
            clear rK3_0 rK3_1 rK3_l
            clear rK4_0 rK4_1 rK4_l
            go_wp2
            go_ret
            exact ⟨rfl, BB.out⟩

end Go.Proofs.Ytljfinfjchkphaa

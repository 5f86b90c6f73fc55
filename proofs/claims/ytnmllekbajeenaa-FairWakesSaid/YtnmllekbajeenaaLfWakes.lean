/-
  The law FairWakes of layer 15: the walk.
-/
import Derived.Test.YtnmllekbajeenaaLv15
namespace Go.Proofs.Ytnmllekbajeenaa
open Go.RowKit

set_option maxRecDepth 100000 in
set_option maxHeartbeats 16000000 in
theorem fairwakes_any (A B : Option Addr) (n c m d : Nat) (l : List Tn) (i : Int) (bs : List Bool) (w : World) (hx : Tns w A n c l) (hi : Fit i) (hb : m ≤ 400 → Flags w B m bs) :
    Calls Try.prog 5 #[.slice A n c, .int .i64 i, .slice B m d] w (TrueAns w) := by
  have HX := Lib.hid hx
  have LX := Lib.hid hx.1
  have hnc := hx.2.1
  have HI := Lib.hid hi
  clear hx hi
  by_cases g0 : 100 < (n : Int)
  · replace g0 : decide (100 < (n : Int)) = true := decide_eq_true g0
    go_enter Try.func5, Try.ntmps5
    go_wp2_with fail
    refine (live15_any _).mono ?_
    rintro e U0 ⟨rfl, b0⟩
    have BB := Lib.hid b0
    clear b0
    go_wp2
    go_ret
    exact ⟨rfl, BB.out⟩
  · by_cases g1 : 100 < (m : Int)
    · replace g0 : decide (100 < (n : Int)) = false := decide_eq_false g0
      replace g1 : decide (100 < (m : Int)) = true := decide_eq_true g1
      go_enter Try.func5, Try.ntmps5
      go_wp2_with fail
      refine (live15_any _).mono ?_
      rintro e U0 ⟨rfl, b0⟩
      have BB := Lib.hid b0
      clear b0
      go_wp2
      go_ret
      exact ⟨rfl, BB.out⟩
    · have HN := Lib.hid (show n ≤ 1000 by omega)
      have Hb := Lib.hid (hb (by omega))
      have hbm2 := Hb.out.2.1
      replace g0 : decide (100 < (n : Int)) = false := decide_eq_false g0
      replace g1 : decide (100 < (m : Int)) = false := decide_eq_false g1
      obtain ⟨⟨e1, a⟩, h1⟩ : ∃ q, wakeFr l i bs = q := ⟨_, rfl⟩
      clear hb
      by_cases he : e1 = 0
      · subst he
        obtain ⟨hft, hoa, k0, rfl, hk0, -⟩ := wake_res h1
        have R1 := Lib.hid h1
        have HL1 := Lib.hid ((wake_len h1).trans LX.out)
        have hkn : k0 < n := by rw [← LX.out]; exact hk0
        have t3 : decide ((k0 : Int) < 0) = false := decide_eq_false (by omega)
        have t4 : decide ((n : Int) ≤ (k0 : Int)) = false := decide_eq_false (by omega)
        have t4b : ((n : Int) != (n : Int)) = false := by simp
        clear hk0
        obtain ⟨⟨z, e2⟩, hls⟩ : ∃ q, leastFr l bs = q := ⟨_, rfl⟩
        have R2 := Lib.hid hls
        rcases least_inv hls with ⟨rfl, -, mm, rfl, hm, hbm, -⟩ | ⟨rfl, rfl, -, hbm⟩ | ⟨-, -, hbad⟩
        · by_cases hc : (tth l mm).tg ≤ (tth l k0).tg
          · have hmn : mm < n := by rw [← LX.out]; exact hm
            have hmx := wake_tag h1 hbm
            obtain ⟨xt, hxt⟩ : ∃ t, (tth l k0).tg = t := ⟨_, rfl⟩
            obtain ⟨yt, hyt⟩ : ∃ t, (tth l mm).tg = t := ⟨_, rfl⟩
            rw [hxt, hyt] at hmx
            have HXT := Lib.hid hxt
            have HYT := Lib.hid hyt
            have hat : (tth a k0).tg = xt := by rw [hmx]; omega
            have t8 : decide (yt ≤ xt) = true := decide_eq_true (by omega)
            have t9 : (xt == xt) = true := by simp
            have HAT := Lib.hid hat
            clear hft hoa h1 hls hbm hm hxt hyt hmx hat hc
            go_enter Try.func5, Try.ntmps5
            go_wp2_with fail
            refine (live15_any _).mono ?_
            rintro e U0 ⟨rfl, b0⟩
            have BB := Lib.hid b0
            have Tl := Lib.hid (HX.out.below b0)
            have Fb := Lib.hid (Hb.out.below b0)
            clear b0
            go_wp2_with fail
            refine (wake_fr A B n c m d l (k0 : Int) bs _ Tl.out HI.out Fb.out).mono ?_
            rw [R1.out]
            rintro e U1 ⟨Aa, ca, rfl, oa, bU1⟩
            replace Tl := Lib.hid (Tl.out.below bU1)
            replace BB := Lib.hid (below3 BB.out bU1)
            replace Fb := Lib.hid (Fb.out.below bU1)
            have Ta := Lib.hid oa.tns
            have Ca := Lib.hid oa
            clear oa bU1
            try dsimp only
            rw [HL1.out] at Ta ⊢
            go_wp2
            go_loopw [57] (fun t wr => ∃ j : Nat, j ≤ n ∧ t = .int .i64 j ∧ (∃ d, wr = World.drewN U1 d)) (fun t _ => n - (intOf t).toNat)
            case atStart => exact ⟨0, Nat.zero_le _, rfl, ⟨0, rfl⟩⟩
            case round =>
              obtain ⟨j, hj, rfl, ⟨d, rfl⟩⟩ := hrel
              by_cases hjn : j < n
              · obtain ⟨bL, oL, rfl, hbL, c0, c1, c2, c3, c4⟩ := Ta.out.at_ hjn
                obtain ⟨bR, oR, rfl, hbR, d0, d1, d2, d3, d4⟩ := Tl.out.at_ hjn
                obtain ⟨q1, q2, q3⟩ := wake_rest R1.out j
                obtain ⟨⟨x0, x1, x2, x3, x4⟩, hz⟩ : ∃ x, tth l j = x := ⟨_, rfl⟩
                have hca := Ta.out.2.1
                by_cases hji : (j : Int) = (k0 : Int)
                · have t5 : ((j : Int) != (k0 : Int)) = false := by simpa using hji
                  obtain ⟨⟨y0, y1, y2, y3, y4⟩, hy⟩ : ∃ x, tth a j = x := ⟨_, rfl⟩
                  rw [hz] at q1 q2
                  rw [hy] at q1 q2 c0 c1 c2 c3 c4
                  rw [hz] at d0 d1 d2 d3 d4
                  dsimp only at q1 q2 c0 c1 c2 c3 c4 d0 d1 d2 d3 d4
                  subst q1
                  have t6 : decide (y3 < x3) = false := decide_eq_false (by omega)
                  clear q2 q3 hz hy hji
                  go_wp2_with fail
                  go_quiet (fail)
                  go_wp2_with fail
                  go_roundw
                  case rel => exact ⟨j + 1, by omega, by go_num, ⟨_, rfl⟩⟩
                  case measure => simp [intOf]; omega
                · have t5 : ((j : Int) != (k0 : Int)) = true := by simpa using hji
                  rw [q3 hji] at c0 c1 c2 c3 c4
                  rw [hz] at c0 c1 c2 c3 c4 d0 d1 d2 d3 d4
                  dsimp only at c0 c1 c2 c3 c4 d0 d1 d2 d3 d4
                  have hN := neq_tn x0 x1 x2 x3 x4 x0 x1 x2 x3 x4
                  have hG := guard_tn .neq
                  simp only [decide_true, Bool.not_true] at hN
                  have t6 : decide (x3 < x3) = false := decide_eq_false (by omega)
                  clear q1 q2 q3 hz hji
                  go_wp2_with fail
                  go_quiet (fail)
                  go_wp2_with fail
                  go_roundw
                  case rel => exact ⟨j + 1, by omega, by go_num, ⟨_, rfl⟩⟩
                  case measure => simp [intOf]; omega
              · obtain rfl : n = j := by omega
                have bd := below_drewN (Below.refl U1.heap.size U1) d
                replace Tl := Lib.hid (Tl.out.below bd)
                replace Ta := Lib.hid (Ta.out.below bd)
                replace BB := Lib.hid (below3 BB.out bd)
                replace Fb := Lib.hid (Fb.out.below bd)
                clear bd
                generalize World.drewN U1 d = W at Tl Ta Fb BB ⊢
                go_wp2_with fail
                refine (least_fr _ B n c m _ l bs _ Tl.out Fb.out).mono ?_
                rw [R2.out]
                rintro e U32 ⟨rfl, bU32⟩
                replace Tl := Lib.hid (Tl.out.below bU32)
                replace Ta := Lib.hid (Ta.out.below bU32)
                replace BB := Lib.hid (below3 BB.out bU32)
                replace Fb := Lib.hid (Fb.out.below bU32)
                clear bU32
                try dsimp only
                obtain ⟨bL, oL, rfl, hbL, -, -, -, c3, -⟩ := Ta.out.at_ hkn
                obtain ⟨bR, oR, rfl, hbR, -, -, -, d3, -⟩ := Tl.out.at_ hkn
                obtain ⟨bS, oS, eS, hbS, -, -, -, f3, -⟩ := Tl.out.at_ hmn
                injection eS with eS
                injection eS with e3 e4
                subst e3 e4
                rw [HAT.out] at c3
                rw [HXT.out] at d3
                rw [HYT.out] at f3
                have hca := Ta.out.2.1
                go_wp2_with fail
                go_quiet (fail)
                go_wp2_with fail
                go_ret
                exact ⟨rfl, below_drewN BB.out _⟩
          · have hmn : mm < n := by rw [← LX.out]; exact hm
            have hmx := wake_tag h1 hbm
            obtain ⟨xt, hxt⟩ : ∃ t, (tth l k0).tg = t := ⟨_, rfl⟩
            obtain ⟨yt, hyt⟩ : ∃ t, (tth l mm).tg = t := ⟨_, rfl⟩
            rw [hxt, hyt] at hmx
            have HXT := Lib.hid hxt
            have HYT := Lib.hid hyt
            have hat : (tth a k0).tg = yt := by rw [hmx]; omega
            have t8 : decide (yt ≤ yt) = true := decide_eq_true (by omega)
            have t9 : (yt == xt) = false := by simp; omega
            have t10 : (yt == yt) = true := by simp
            have HAT := Lib.hid hat
            clear hft hoa h1 hls hbm hm hxt hyt hmx hat hc
            go_enter Try.func5, Try.ntmps5
            go_wp2_with fail
            refine (live15_any _).mono ?_
            rintro e U0 ⟨rfl, b0⟩
            have BB := Lib.hid b0
            have Tl := Lib.hid (HX.out.below b0)
            have Fb := Lib.hid (Hb.out.below b0)
            clear b0
            go_wp2_with fail
            refine (wake_fr A B n c m d l (k0 : Int) bs _ Tl.out HI.out Fb.out).mono ?_
            rw [R1.out]
            rintro e U1 ⟨Aa, ca, rfl, oa, bU1⟩
            replace Tl := Lib.hid (Tl.out.below bU1)
            replace BB := Lib.hid (below3 BB.out bU1)
            replace Fb := Lib.hid (Fb.out.below bU1)
            have Ta := Lib.hid oa.tns
            have Ca := Lib.hid oa
            clear oa bU1
            try dsimp only
            rw [HL1.out] at Ta ⊢
            go_wp2
            go_loopw [57] (fun t wr => ∃ j : Nat, j ≤ n ∧ t = .int .i64 j ∧ (∃ d, wr = World.drewN U1 d)) (fun t _ => n - (intOf t).toNat)
            case atStart => exact ⟨0, Nat.zero_le _, rfl, ⟨0, rfl⟩⟩
            case round =>
              obtain ⟨j, hj, rfl, ⟨d, rfl⟩⟩ := hrel
              by_cases hjn : j < n
              · obtain ⟨bL, oL, rfl, hbL, c0, c1, c2, c3, c4⟩ := Ta.out.at_ hjn
                obtain ⟨bR, oR, rfl, hbR, d0, d1, d2, d3, d4⟩ := Tl.out.at_ hjn
                obtain ⟨q1, q2, q3⟩ := wake_rest R1.out j
                obtain ⟨⟨x0, x1, x2, x3, x4⟩, hz⟩ : ∃ x, tth l j = x := ⟨_, rfl⟩
                have hca := Ta.out.2.1
                by_cases hji : (j : Int) = (k0 : Int)
                · have t5 : ((j : Int) != (k0 : Int)) = false := by simpa using hji
                  obtain ⟨⟨y0, y1, y2, y3, y4⟩, hy⟩ : ∃ x, tth a j = x := ⟨_, rfl⟩
                  rw [hz] at q1 q2
                  rw [hy] at q1 q2 c0 c1 c2 c3 c4
                  rw [hz] at d0 d1 d2 d3 d4
                  dsimp only at q1 q2 c0 c1 c2 c3 c4 d0 d1 d2 d3 d4
                  subst q1
                  have t6 : decide (y3 < x3) = false := decide_eq_false (by omega)
                  clear q2 q3 hz hy hji
                  go_wp2_with fail
                  go_quiet (fail)
                  go_wp2_with fail
                  go_roundw
                  case rel => exact ⟨j + 1, by omega, by go_num, ⟨_, rfl⟩⟩
                  case measure => simp [intOf]; omega
                · have t5 : ((j : Int) != (k0 : Int)) = true := by simpa using hji
                  rw [q3 hji] at c0 c1 c2 c3 c4
                  rw [hz] at c0 c1 c2 c3 c4 d0 d1 d2 d3 d4
                  dsimp only at c0 c1 c2 c3 c4 d0 d1 d2 d3 d4
                  have hN := neq_tn x0 x1 x2 x3 x4 x0 x1 x2 x3 x4
                  have hG := guard_tn .neq
                  simp only [decide_true, Bool.not_true] at hN
                  have t6 : decide (x3 < x3) = false := decide_eq_false (by omega)
                  clear q1 q2 q3 hz hji
                  go_wp2_with fail
                  go_quiet (fail)
                  go_wp2_with fail
                  go_roundw
                  case rel => exact ⟨j + 1, by omega, by go_num, ⟨_, rfl⟩⟩
                  case measure => simp [intOf]; omega
              · obtain rfl : n = j := by omega
                have bd := below_drewN (Below.refl U1.heap.size U1) d
                replace Tl := Lib.hid (Tl.out.below bd)
                replace Ta := Lib.hid (Ta.out.below bd)
                replace BB := Lib.hid (below3 BB.out bd)
                replace Fb := Lib.hid (Fb.out.below bd)
                clear bd
                generalize World.drewN U1 d = W at Tl Ta Fb BB ⊢
                go_wp2_with fail
                refine (least_fr _ B n c m _ l bs _ Tl.out Fb.out).mono ?_
                rw [R2.out]
                rintro e U32 ⟨rfl, bU32⟩
                replace Tl := Lib.hid (Tl.out.below bU32)
                replace Ta := Lib.hid (Ta.out.below bU32)
                replace BB := Lib.hid (below3 BB.out bU32)
                replace Fb := Lib.hid (Fb.out.below bU32)
                clear bU32
                try dsimp only
                obtain ⟨bL, oL, rfl, hbL, -, -, -, c3, -⟩ := Ta.out.at_ hkn
                obtain ⟨bR, oR, rfl, hbR, -, -, -, d3, -⟩ := Tl.out.at_ hkn
                obtain ⟨bS, oS, eS, hbS, -, -, -, f3, -⟩ := Tl.out.at_ hmn
                injection eS with eS
                injection eS with e3 e4
                subst e3 e4
                rw [HAT.out] at c3
                rw [HXT.out] at d3
                rw [HYT.out] at f3
                have hca := Ta.out.2.1
                go_wp2_with fail
                go_quiet (fail)
                go_wp2_with fail
                go_ret
                exact ⟨rfl, below_drewN BB.out _⟩
        · have HAL := Lib.hid (wake_alone h1 hbm)
          clear hft hoa h1 hls hbm
          go_enter Try.func5, Try.ntmps5
          go_wp2_with fail
          refine (live15_any _).mono ?_
          rintro e U0 ⟨rfl, b0⟩
          have BB := Lib.hid b0
          have Tl := Lib.hid (HX.out.below b0)
          have Fb := Lib.hid (Hb.out.below b0)
          clear b0
          go_wp2_with fail
          refine (wake_fr A B n c m d l (k0 : Int) bs _ Tl.out HI.out Fb.out).mono ?_
          rw [R1.out]
          rintro e U1 ⟨Aa, ca, rfl, oa, bU1⟩
          replace Tl := Lib.hid (Tl.out.below bU1)
          replace BB := Lib.hid (below3 BB.out bU1)
          replace Fb := Lib.hid (Fb.out.below bU1)
          have Ta := Lib.hid oa.tns
          have Ca := Lib.hid oa
          clear oa bU1
          try dsimp only
          rw [HL1.out] at Ta ⊢
          go_wp2
          go_loopw [57] (fun t wr => ∃ j : Nat, j ≤ n ∧ t = .int .i64 j ∧ (∃ d, wr = World.drewN U1 d)) (fun t _ => n - (intOf t).toNat)
          case atStart => exact ⟨0, Nat.zero_le _, rfl, ⟨0, rfl⟩⟩
          case round =>
            obtain ⟨j, hj, rfl, ⟨d, rfl⟩⟩ := hrel
            by_cases hjn : j < n
            · obtain ⟨bL, oL, rfl, hbL, c0, c1, c2, c3, c4⟩ := Ta.out.at_ hjn
              obtain ⟨bR, oR, rfl, hbR, d0, d1, d2, d3, d4⟩ := Tl.out.at_ hjn
              obtain ⟨q1, q2, q3⟩ := wake_rest R1.out j
              obtain ⟨⟨x0, x1, x2, x3, x4⟩, hz⟩ : ∃ x, tth l j = x := ⟨_, rfl⟩
              have hca := Ta.out.2.1
              by_cases hji : (j : Int) = (k0 : Int)
              · have t5 : ((j : Int) != (k0 : Int)) = false := by simpa using hji
                obtain ⟨⟨y0, y1, y2, y3, y4⟩, hy⟩ : ∃ x, tth a j = x := ⟨_, rfl⟩
                rw [hz] at q1 q2
                rw [hy] at q1 q2 c0 c1 c2 c3 c4
                rw [hz] at d0 d1 d2 d3 d4
                dsimp only at q1 q2 c0 c1 c2 c3 c4 d0 d1 d2 d3 d4
                subst q1
                have t6 : decide (y3 < x3) = false := decide_eq_false (by omega)
                clear q2 q3 hz hy hji
                go_wp2_with fail
                go_quiet (fail)
                go_wp2_with fail
                go_roundw
                case rel => exact ⟨j + 1, by omega, by go_num, ⟨_, rfl⟩⟩
                case measure => simp [intOf]; omega
              · have t5 : ((j : Int) != (k0 : Int)) = true := by simpa using hji
                rw [q3 hji] at c0 c1 c2 c3 c4
                rw [hz] at c0 c1 c2 c3 c4 d0 d1 d2 d3 d4
                dsimp only at c0 c1 c2 c3 c4 d0 d1 d2 d3 d4
                have hN := neq_tn x0 x1 x2 x3 x4 x0 x1 x2 x3 x4
                have hG := guard_tn .neq
                simp only [decide_true, Bool.not_true] at hN
                have t6 : decide (x3 < x3) = false := decide_eq_false (by omega)
                clear q1 q2 q3 hz hji
                go_wp2_with fail
                go_quiet (fail)
                go_wp2_with fail
                go_roundw
                case rel => exact ⟨j + 1, by omega, by go_num, ⟨_, rfl⟩⟩
                case measure => simp [intOf]; omega
            · obtain rfl : n = j := by omega
              have bd := below_drewN (Below.refl U1.heap.size U1) d
              replace Tl := Lib.hid (Tl.out.below bd)
              replace Ta := Lib.hid (Ta.out.below bd)
              replace BB := Lib.hid (below3 BB.out bd)
              replace Fb := Lib.hid (Fb.out.below bd)
              clear bd
              generalize World.drewN U1 d = W at Tl Ta Fb BB ⊢
              go_wp2_with fail
              refine (least_fr _ B n c m _ l bs _ Tl.out Fb.out).mono ?_
              rw [R2.out]
              rintro e U32 ⟨rfl, bU32⟩
              replace Tl := Lib.hid (Tl.out.below bU32)
              replace Ta := Lib.hid (Ta.out.below bU32)
              replace BB := Lib.hid (below3 BB.out bU32)
              replace Fb := Lib.hid (Fb.out.below bU32)
              clear bU32
              try dsimp only
              rw [HAL.out] at Ta
              go_wp2_with fail
              refine (psame_tn _ _ _ _ _ _ l l _ Ta.out Tl.out).mono ?_
              rw [sameTn_refl]
              rintro e U33 ⟨rfl, bU33⟩
              replace Tl := Lib.hid (Tl.out.below bU33)
              replace Ta := Lib.hid (Ta.out.below bU33)
              replace BB := Lib.hid (below3 BB.out bU33)
              replace Fb := Lib.hid (Fb.out.below bU33)
              clear bU33
              try dsimp only
              go_wp2
              go_ret
              exact ⟨rfl, BB.out⟩
        · exact absurd hft hbad
      · obtain rfl := wake_no h1 he
        have R1 := Lib.hid h1
        have t3 : (e1 != 0) = true := by simpa using he
        clear he h1
        go_enter Try.func5, Try.ntmps5
        go_wp2_with fail
        refine (live15_any _).mono ?_
        rintro e U0 ⟨rfl, b0⟩
        have BB := Lib.hid b0
        have Tl := Lib.hid (HX.out.below b0)
        have Fb := Lib.hid (Hb.out.below b0)
        clear b0
        go_wp2_with fail
        refine (wake_fr A B n c m d l i bs _ Tl.out HI.out Fb.out).mono ?_
        rw [R1.out]
        rintro e U1 ⟨Aa, ca, rfl, oa, bU1⟩
        replace Tl := Lib.hid (Tl.out.below bU1)
        replace BB := Lib.hid (below3 BB.out bU1)
        replace Fb := Lib.hid (Fb.out.below bU1)
        have Ta := Lib.hid oa.tns
        have Ca := Lib.hid oa
        clear oa bU1
        try dsimp only
        simp only [List.length_nil]
        go_wp2
        go_ret
        exact ⟨rfl, BB.out⟩

end Go.Proofs.Ytnmllekbajeenaa

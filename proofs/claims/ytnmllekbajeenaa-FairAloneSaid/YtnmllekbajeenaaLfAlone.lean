/-
  The law FairAlone of layer 15: the walk.
-/
import Derived.Test.YtnmllekbajeenaaLv15
namespace Go.Proofs.Ytnmllekbajeenaa
open Go.RowKit

set_option maxRecDepth 100000 in
set_option maxHeartbeats 16000000 in
theorem fairalone_any (A B : Option Addr) (n c m d : Nat) (l : List Tn) (i u : Int) (bs : List Bool) (w : World) (hx : Tns w A n c l) (hi : Fit i) (hu : Fit u) (hb : m ≤ 400 → Flags w B m bs) :
    Calls Try.prog 7 #[.slice A n c, .int .i64 i, .int .i64 u, .slice B m d] w (TrueAns w) := by
  have HX := Lib.hid hx
  have LX := Lib.hid hx.1
  have hnc := hx.2.1
  have HI := Lib.hid hi
  have HU := Lib.hid hu
  clear hx hi hu
  by_cases g0 : 100 < (n : Int)
  · replace g0 : decide (100 < (n : Int)) = true := decide_eq_true g0
    go_enter Try.func7, Try.ntmps7
    go_wp2_with fail
    refine (live15_any _).mono ?_
    rintro e U0 ⟨rfl, b0⟩
    have BB := Lib.hid b0
    clear b0
    go_wp2
    go_ret
    exact ⟨rfl, BB.out⟩
  · by_cases g1 : 100 < (m : Int)
    · replace g0 : decide (100 < (n : Int)) = false := decide_eq_false g0
      replace g1 : decide (100 < (m : Int)) = true := decide_eq_true g1
      go_enter Try.func7, Try.ntmps7
      go_wp2_with fail
      refine (live15_any _).mono ?_
      rintro e U0 ⟨rfl, b0⟩
      have BB := Lib.hid b0
      clear b0
      go_wp2
      go_ret
      exact ⟨rfl, BB.out⟩
    · have HN := Lib.hid (show n ≤ 1000 by omega)
      have Hb := Lib.hid (hb (by omega))
      have hbm2 := Hb.out.2.1
      replace g0 : decide (100 < (n : Int)) = false := decide_eq_false g0
      replace g1 : decide (100 < (m : Int)) = false := decide_eq_false g1
      obtain ⟨⟨e1, a⟩, h1⟩ : ∃ q, chargeLn l i u = q := ⟨_, rfl⟩
      clear hb
      obtain ⟨⟨z, e2⟩, hls⟩ : ∃ q, leastFr l bs = q := ⟨_, rfl⟩
      by_cases he : e1 = 0
      · rcases least_inv hls with ⟨rfl, hft, mm, rfl, hm, hbm, hbt, hle⟩ | ⟨rfl, rfl, -, -⟩ | ⟨rfl, rfl, -⟩
        · have R2 := Lib.hid hls
          have hmn : mm < n := by rw [← LX.out]; exact hm
          have hmb : mm < m := by have := hft.2; have := Hb.out.1; omega
          have hnm : n ≤ m := by have := hft.2; have := Hb.out.1; have := LX.out; omega
          have HBM := Lib.hid hbt
          have HLE := Lib.hid hle
          clear hft hm hbm hbt hle
          subst he
          have R1 := Lib.hid h1
          have HL1 := Lib.hid ((charge_len h1).trans LX.out)
          have t4b : ((n : Int) != (n : Int)) = false := by simp
          clear h1 hls
          go_enter Try.func7, Try.ntmps7
          go_wp2_with fail
          refine (live15_any _).mono ?_
          rintro e U0 ⟨rfl, b0⟩
          have BB := Lib.hid b0
          have Tl := Lib.hid (HX.out.below b0)
          have Fb := Lib.hid (Hb.out.below b0)
          clear b0
          go_wp2_with fail
          refine (charge_fr A n c l i u _ Tl.out HI.out HU.out HN.out).mono ?_
          rw [R1.out]
          rintro e U1 ⟨Aa, ca, rfl, oa, bU1⟩
          replace Tl := Lib.hid (Tl.out.below bU1)
          replace BB := Lib.hid (below3 BB.out bU1)
          replace Fb := Lib.hid (Fb.out.below bU1)
          have Ta := Lib.hid oa.tns
          have Ca := Lib.hid oa
          clear oa bU1
          try dsimp only
          rw [HL1.out] at Ta ⊢
          go_wp2
          go_loopw [45] (fun t wr => ∃ j : Nat, j ≤ n ∧ t = .int .i64 j ∧ (∃ q, wr = World.drewN U1 q)) (fun t _ => n - (intOf t).toNat)
          case atStart => exact ⟨0, Nat.zero_le _, rfl, ⟨0, rfl⟩⟩
          case round =>
            obtain ⟨j, hj, rfl, ⟨q, rfl⟩⟩ := hrel
            by_cases hjn : j < n
            · obtain ⟨bL, oL, rfl, hbL, c0, c1, c2, c3, c4⟩ := Ta.out.at_ hjn
              obtain ⟨bR, oR, rfl, hbR, d0, d1, d2, d3, d4⟩ := Tl.out.at_ hjn
              obtain ⟨q1, q2, q3, q4, q5, q6⟩ := charge_rest R1.out j
              obtain ⟨⟨x0, x1, x2, x3, x4⟩, hz⟩ : ∃ x, tth l j = x := ⟨_, rfl⟩
              have hca := Ta.out.2.1
              by_cases hji : (j : Int) = i
              · have t5 : ((j : Int) != i) = false := by simpa using hji
                obtain ⟨⟨y0, y1, y2, y3, y4⟩, hy⟩ : ∃ x, tth a j = x := ⟨_, rfl⟩
                rw [hz, hy] at q1 q2 q3 q4 q5
                rw [hy] at c0 c1 c2 c3 c4
                rw [hz] at d0 d1 d2 d3 d4
                dsimp only at q1 q2 q3 q4 q5 c0 c1 c2 c3 c4 d0 d1 d2 d3 d4
                subst q1 q2 q3 q5
                have t6 : decide (y3 < x3) = false := decide_eq_false (by omega)
                clear q4 q6 hz hy hji
                go_wp2_with fail
                go_quiet (fail)
                go_wp2_with fail
                go_roundw
                case rel => exact ⟨j + 1, by omega, by go_num, ⟨_, rfl⟩⟩
                case measure => simp [intOf]; omega
              · have t5 : ((j : Int) != i) = true := by simpa using hji
                rw [q6 hji] at c0 c1 c2 c3 c4
                rw [hz] at c0 c1 c2 c3 c4 d0 d1 d2 d3 d4
                dsimp only at c0 c1 c2 c3 c4 d0 d1 d2 d3 d4
                have hN := neq_tn x0 x1 x2 x3 x4 x0 x1 x2 x3 x4
                have hG := guard_tn .neq
                simp only [decide_true, Bool.not_true] at hN
                have t6 : decide (x3 < x3) = false := decide_eq_false (by omega)
                clear q1 q2 q3 q4 q5 q6 hz hji
                go_wp2_with fail
                go_quiet (fail)
                go_wp2_with fail
                go_roundw
                case rel => exact ⟨j + 1, by omega, by go_num, ⟨_, rfl⟩⟩
                case measure => simp [intOf]; omega
            · obtain rfl : n = j := by omega
              have bd := below_drewN (Below.refl U1.heap.size U1) q
              replace Tl := Lib.hid (Tl.out.below bd)
              replace Ta := Lib.hid (Ta.out.below bd)
              replace BB := Lib.hid (below3 BB.out bd)
              replace Fb := Lib.hid (Fb.out.below bd)
              clear bd
              generalize World.drewN U1 q = W at Tl Ta Fb BB ⊢
              go_wp2_with fail
              refine (least_fr _ B n c m _ l bs _ Tl.out Fb.out).mono ?_
              rw [R2.out]
              rintro e U32 ⟨rfl, bU32⟩
              replace Tl := Lib.hid (Tl.out.below bU32)
              replace Ta := Lib.hid (Ta.out.below bU32)
              replace BB := Lib.hid (below3 BB.out bU32)
              replace Fb := Lib.hid (Fb.out.below bU32)
              clear bU32
              try dsimp only
              go_wp2
              go_loopw [121] (fun t wr => ∃ j : Nat, j ≤ n ∧ t = .int .i64 j ∧ Hid (Below U32.heap.size U32 wr)) (fun t _ => n - (intOf t).toNat)
              case atStart => exact ⟨0, Nat.zero_le _, rfl, Lib.hid (Below.refl _ _)⟩
              case round =>
                rename World => wr
                obtain ⟨k, hk, rfl, BW⟩ := hrel
                by_cases hkn : k < n
                · obtain ⟨bL, oL, rfl, hbL, c0, c1, c2, c3, c4⟩ := (Tl.out.below BW.out).at_ hkn
                  obtain ⟨bR, oR, rfl, hbR, d0⟩ := (Fb.out.below BW.out).at_fr (show k < m by omega)
                  obtain ⟨⟨wt, qu, li, tg, rn⟩, hz⟩ : ∃ x, tth l k = x := ⟨_, rfl⟩
                  rw [hz] at c0 c1 c2 c3 c4
                  dsimp only at c0 c1 c2 c3 c4
                  have HZ := Lib.hid hz
                  clear hz
                  have kn := Bk.new wr 36 #[.int .i64 wt, .int .i64 qu, .int .i64 li, .int .i64 tg, .int .i64 rn]
                  have ba := (Below.refl wr.heap.size wr).alloc (Nat.le_refl _) (.cells #[.int .i64 wt, .int .i64 qu, .int .i64 li, .int .i64 tg, .int .i64 rn] 36)
                  obtain ⟨W, hW⟩ : ∃ W, wr.alloc (.cells #[.int .i64 wt, .int .i64 qu, .int .i64 li, .int .i64 tg, .int .i64 rn] 36) = W := ⟨_, rfl⟩
                  obtain ⟨gx, hg⟩ : ∃ g, wr.heap.size = g := ⟨_, rfl⟩
                  have d1 := (ba.cell (p := ⟨bR, oR + k, none⟩) hbR).trans d0
                  have hbR2 := Nat.lt_of_lt_of_le hbR ba.size
                  have B1 := Lib.hid (below3 BW.out ba)
                  rw [hW] at kn B1 d1 hbR2
                  rw [hg] at kn
                  obtain ⟨-, -, -, q3, -⟩ := kn.c5
                  have lq := kn.lt
                  have HWW := Lib.hid hW
                  have HG2 := Lib.hid hg
                  clear kn ba hW hg d0 hbR
                  go_upto_region 22 with fail
                  rw [HWW.out]
                  try rw [HG2.out]
                  clear HWW HG2 c0 c1 c2 c3 c4 hbL
                  cases hbk : bth bs k with
                  | false =>
                    rw [hbk] at d1
                    clear hbk
                    go_wp2_with fail
                    go_quiet (fail)
                    go_wp2_with fail
                    go_roundw
                    case rel => exact ⟨k + 1, by omega, by go_num, Lib.hid (below_drewN B1.out _)⟩
                    case measure => simp [intOf]; omega
                  | true =>
                    rw [hbk] at d1
                    have hle := HLE.out k (by rw [LX.out]; exact hkn) hbk
                    rw [HZ.out] at hle
                    dsimp only at hle
                    obtain ⟨b2, o2, e2, hb2, -, -, -, c5, -⟩ := (Tl.out.below B1.out).at_ hmn
                    injection e2 with e2
                    injection e2 with e3 e4
                    subst e3 e4
                    obtain ⟨ty, hty⟩ : ∃ t, (tth l mm).tg = t := ⟨_, rfl⟩
                    rw [hty] at c5 hle
                    have t6 : decide (tg < ty) = false := decide_eq_false (by omega)
                    clear hbk hty
                    by_cases hc : tg = ty
                    · subst hc
                      have t7 : (tg == tg) = true := by simp
                      have t8 : decide ((k : Int) < (mm : Int)) = false := decide_eq_false (by omega)
                      have t9 : decide (k < mm) = false := decide_eq_false (by omega)
                      clear hle
                      go_wp2_with fail
                      go_quiet (fail)
                      go_wp2_with fail
                      go_roundw
                      case rel => exact ⟨k + 1, by omega, by go_num, Lib.hid (below_drewN B1.out _)⟩
                      case measure => simp [intOf]; omega
                    · have t7 : (tg == ty) = false := by simpa using hc
                      clear hc hle
                      go_wp2_with fail
                      go_quiet (fail)
                      go_wp2_with fail
                      go_roundw
                      case rel => exact ⟨k + 1, by omega, by go_num, Lib.hid (below_drewN B1.out _)⟩
                      case measure => simp [intOf]; omega
                · obtain rfl : n = k := by omega
                  obtain ⟨bR, oR, rfl, hbR, d0⟩ := (Fb.out.below BW.out).at_fr hmb
                  rw [HBM.out] at d0
                  have BE := Lib.hid (below3 BB.out BW.out)
                  go_wp2
                  go_ret
                  exact ⟨rfl, BE.out⟩
        · have R2 := Lib.hid hls
          subst he
          have R1 := Lib.hid h1
          have HL1 := Lib.hid ((charge_len h1).trans LX.out)
          have t4b : ((n : Int) != (n : Int)) = false := by simp
          clear h1 hls
          go_enter Try.func7, Try.ntmps7
          go_wp2_with fail
          refine (live15_any _).mono ?_
          rintro e U0 ⟨rfl, b0⟩
          have BB := Lib.hid b0
          have Tl := Lib.hid (HX.out.below b0)
          have Fb := Lib.hid (Hb.out.below b0)
          clear b0
          go_wp2_with fail
          refine (charge_fr A n c l i u _ Tl.out HI.out HU.out HN.out).mono ?_
          rw [R1.out]
          rintro e U1 ⟨Aa, ca, rfl, oa, bU1⟩
          replace Tl := Lib.hid (Tl.out.below bU1)
          replace BB := Lib.hid (below3 BB.out bU1)
          replace Fb := Lib.hid (Fb.out.below bU1)
          have Ta := Lib.hid oa.tns
          have Ca := Lib.hid oa
          clear oa bU1
          try dsimp only
          rw [HL1.out] at Ta ⊢
          go_wp2
          go_loopw [45] (fun t wr => ∃ j : Nat, j ≤ n ∧ t = .int .i64 j ∧ (∃ q, wr = World.drewN U1 q)) (fun t _ => n - (intOf t).toNat)
          case atStart => exact ⟨0, Nat.zero_le _, rfl, ⟨0, rfl⟩⟩
          case round =>
            obtain ⟨j, hj, rfl, ⟨q, rfl⟩⟩ := hrel
            by_cases hjn : j < n
            · obtain ⟨bL, oL, rfl, hbL, c0, c1, c2, c3, c4⟩ := Ta.out.at_ hjn
              obtain ⟨bR, oR, rfl, hbR, d0, d1, d2, d3, d4⟩ := Tl.out.at_ hjn
              obtain ⟨q1, q2, q3, q4, q5, q6⟩ := charge_rest R1.out j
              obtain ⟨⟨x0, x1, x2, x3, x4⟩, hz⟩ : ∃ x, tth l j = x := ⟨_, rfl⟩
              have hca := Ta.out.2.1
              by_cases hji : (j : Int) = i
              · have t5 : ((j : Int) != i) = false := by simpa using hji
                obtain ⟨⟨y0, y1, y2, y3, y4⟩, hy⟩ : ∃ x, tth a j = x := ⟨_, rfl⟩
                rw [hz, hy] at q1 q2 q3 q4 q5
                rw [hy] at c0 c1 c2 c3 c4
                rw [hz] at d0 d1 d2 d3 d4
                dsimp only at q1 q2 q3 q4 q5 c0 c1 c2 c3 c4 d0 d1 d2 d3 d4
                subst q1 q2 q3 q5
                have t6 : decide (y3 < x3) = false := decide_eq_false (by omega)
                clear q4 q6 hz hy hji
                go_wp2_with fail
                go_quiet (fail)
                go_wp2_with fail
                go_roundw
                case rel => exact ⟨j + 1, by omega, by go_num, ⟨_, rfl⟩⟩
                case measure => simp [intOf]; omega
              · have t5 : ((j : Int) != i) = true := by simpa using hji
                rw [q6 hji] at c0 c1 c2 c3 c4
                rw [hz] at c0 c1 c2 c3 c4 d0 d1 d2 d3 d4
                dsimp only at c0 c1 c2 c3 c4 d0 d1 d2 d3 d4
                have hN := neq_tn x0 x1 x2 x3 x4 x0 x1 x2 x3 x4
                have hG := guard_tn .neq
                simp only [decide_true, Bool.not_true] at hN
                have t6 : decide (x3 < x3) = false := decide_eq_false (by omega)
                clear q1 q2 q3 q4 q5 q6 hz hji
                go_wp2_with fail
                go_quiet (fail)
                go_wp2_with fail
                go_roundw
                case rel => exact ⟨j + 1, by omega, by go_num, ⟨_, rfl⟩⟩
                case measure => simp [intOf]; omega
            · obtain rfl : n = j := by omega
              have bd := below_drewN (Below.refl U1.heap.size U1) q
              replace Tl := Lib.hid (Tl.out.below bd)
              replace Ta := Lib.hid (Ta.out.below bd)
              replace BB := Lib.hid (below3 BB.out bd)
              replace Fb := Lib.hid (Fb.out.below bd)
              clear bd
              generalize World.drewN U1 q = W at Tl Ta Fb BB ⊢
              go_wp2_with fail
              refine (least_fr _ B n c m _ l bs _ Tl.out Fb.out).mono ?_
              rw [R2.out]
              rintro e U32 ⟨rfl, bU32⟩
              replace Tl := Lib.hid (Tl.out.below bU32)
              replace Ta := Lib.hid (Ta.out.below bU32)
              replace BB := Lib.hid (below3 BB.out bU32)
              replace Fb := Lib.hid (Fb.out.below bU32)
              clear bU32
              try dsimp only
              go_wp2
              go_ret
              exact ⟨rfl, BB.out⟩
        · have R2 := Lib.hid hls
          subst he
          have R1 := Lib.hid h1
          have HL1 := Lib.hid ((charge_len h1).trans LX.out)
          have t4b : ((n : Int) != (n : Int)) = false := by simp
          clear h1 hls
          go_enter Try.func7, Try.ntmps7
          go_wp2_with fail
          refine (live15_any _).mono ?_
          rintro e U0 ⟨rfl, b0⟩
          have BB := Lib.hid b0
          have Tl := Lib.hid (HX.out.below b0)
          have Fb := Lib.hid (Hb.out.below b0)
          clear b0
          go_wp2_with fail
          refine (charge_fr A n c l i u _ Tl.out HI.out HU.out HN.out).mono ?_
          rw [R1.out]
          rintro e U1 ⟨Aa, ca, rfl, oa, bU1⟩
          replace Tl := Lib.hid (Tl.out.below bU1)
          replace BB := Lib.hid (below3 BB.out bU1)
          replace Fb := Lib.hid (Fb.out.below bU1)
          have Ta := Lib.hid oa.tns
          have Ca := Lib.hid oa
          clear oa bU1
          try dsimp only
          rw [HL1.out] at Ta ⊢
          go_wp2
          go_loopw [45] (fun t wr => ∃ j : Nat, j ≤ n ∧ t = .int .i64 j ∧ (∃ q, wr = World.drewN U1 q)) (fun t _ => n - (intOf t).toNat)
          case atStart => exact ⟨0, Nat.zero_le _, rfl, ⟨0, rfl⟩⟩
          case round =>
            obtain ⟨j, hj, rfl, ⟨q, rfl⟩⟩ := hrel
            by_cases hjn : j < n
            · obtain ⟨bL, oL, rfl, hbL, c0, c1, c2, c3, c4⟩ := Ta.out.at_ hjn
              obtain ⟨bR, oR, rfl, hbR, d0, d1, d2, d3, d4⟩ := Tl.out.at_ hjn
              obtain ⟨q1, q2, q3, q4, q5, q6⟩ := charge_rest R1.out j
              obtain ⟨⟨x0, x1, x2, x3, x4⟩, hz⟩ : ∃ x, tth l j = x := ⟨_, rfl⟩
              have hca := Ta.out.2.1
              by_cases hji : (j : Int) = i
              · have t5 : ((j : Int) != i) = false := by simpa using hji
                obtain ⟨⟨y0, y1, y2, y3, y4⟩, hy⟩ : ∃ x, tth a j = x := ⟨_, rfl⟩
                rw [hz, hy] at q1 q2 q3 q4 q5
                rw [hy] at c0 c1 c2 c3 c4
                rw [hz] at d0 d1 d2 d3 d4
                dsimp only at q1 q2 q3 q4 q5 c0 c1 c2 c3 c4 d0 d1 d2 d3 d4
                subst q1 q2 q3 q5
                have t6 : decide (y3 < x3) = false := decide_eq_false (by omega)
                clear q4 q6 hz hy hji
                go_wp2_with fail
                go_quiet (fail)
                go_wp2_with fail
                go_roundw
                case rel => exact ⟨j + 1, by omega, by go_num, ⟨_, rfl⟩⟩
                case measure => simp [intOf]; omega
              · have t5 : ((j : Int) != i) = true := by simpa using hji
                rw [q6 hji] at c0 c1 c2 c3 c4
                rw [hz] at c0 c1 c2 c3 c4 d0 d1 d2 d3 d4
                dsimp only at c0 c1 c2 c3 c4 d0 d1 d2 d3 d4
                have hN := neq_tn x0 x1 x2 x3 x4 x0 x1 x2 x3 x4
                have hG := guard_tn .neq
                simp only [decide_true, Bool.not_true] at hN
                have t6 : decide (x3 < x3) = false := decide_eq_false (by omega)
                clear q1 q2 q3 q4 q5 q6 hz hji
                go_wp2_with fail
                go_quiet (fail)
                go_wp2_with fail
                go_roundw
                case rel => exact ⟨j + 1, by omega, by go_num, ⟨_, rfl⟩⟩
                case measure => simp [intOf]; omega
            · obtain rfl : n = j := by omega
              have bd := below_drewN (Below.refl U1.heap.size U1) q
              replace Tl := Lib.hid (Tl.out.below bd)
              replace Ta := Lib.hid (Ta.out.below bd)
              replace BB := Lib.hid (below3 BB.out bd)
              replace Fb := Lib.hid (Fb.out.below bd)
              clear bd
              generalize World.drewN U1 q = W at Tl Ta Fb BB ⊢
              go_wp2_with fail
              refine (least_fr _ B n c m _ l bs _ Tl.out Fb.out).mono ?_
              rw [R2.out]
              rintro e U32 ⟨rfl, bU32⟩
              replace Tl := Lib.hid (Tl.out.below bU32)
              replace Ta := Lib.hid (Ta.out.below bU32)
              replace BB := Lib.hid (below3 BB.out bU32)
              replace Fb := Lib.hid (Fb.out.below bU32)
              clear bU32
              try dsimp only
              go_wp2
              go_ret
              exact ⟨rfl, BB.out⟩
      · rcases least_inv hls with ⟨rfl, hft, mm, rfl, hm, hbm, hbt, hle⟩ | ⟨rfl, rfl, -, -⟩ | ⟨rfl, rfl, -⟩
        · have R2 := Lib.hid hls
          have hmn : mm < n := by rw [← LX.out]; exact hm
          have hmb : mm < m := by have := hft.2; have := Hb.out.1; omega
          have hnm : n ≤ m := by have := hft.2; have := Hb.out.1; have := LX.out; omega
          have HBM := Lib.hid hbt
          have HLE := Lib.hid hle
          clear hft hm hbm hbt hle
          have R1 := Lib.hid h1
          have t3 : (e1 == 0) = false := by simpa using he
          clear he
          clear h1 hls
          go_enter Try.func7, Try.ntmps7
          go_wp2_with fail
          refine (live15_any _).mono ?_
          rintro e U0 ⟨rfl, b0⟩
          have BB := Lib.hid b0
          have Tl := Lib.hid (HX.out.below b0)
          have Fb := Lib.hid (Hb.out.below b0)
          clear b0
          go_wp2_with fail
          refine (charge_fr A n c l i u _ Tl.out HI.out HU.out HN.out).mono ?_
          rw [R1.out]
          rintro e U1 ⟨Aa, ca, rfl, oa, bU1⟩
          replace Tl := Lib.hid (Tl.out.below bU1)
          replace BB := Lib.hid (below3 BB.out bU1)
          replace Fb := Lib.hid (Fb.out.below bU1)
          have Ta := Lib.hid oa.tns
          have Ca := Lib.hid oa
          clear oa bU1
          try dsimp only
          clear Ta Ca
          go_wp2_with fail
          refine (least_fr _ B n c m _ l bs _ Tl.out Fb.out).mono ?_
          rw [R2.out]
          rintro e U2 ⟨rfl, bU2⟩
          replace Tl := Lib.hid (Tl.out.below bU2)
          replace BB := Lib.hid (below3 BB.out bU2)
          replace Fb := Lib.hid (Fb.out.below bU2)
          clear bU2
          try dsimp only
          go_wp2
          go_loopw [121] (fun t wr => ∃ j : Nat, j ≤ n ∧ t = .int .i64 j ∧ Hid (Below U2.heap.size U2 wr)) (fun t _ => n - (intOf t).toNat)
          case atStart => exact ⟨0, Nat.zero_le _, rfl, Lib.hid (Below.refl _ _)⟩
          case round =>
            rename World => wr
            obtain ⟨k, hk, rfl, BW⟩ := hrel
            by_cases hkn : k < n
            · obtain ⟨bL, oL, rfl, hbL, c0, c1, c2, c3, c4⟩ := (Tl.out.below BW.out).at_ hkn
              obtain ⟨bR, oR, rfl, hbR, d0⟩ := (Fb.out.below BW.out).at_fr (show k < m by omega)
              obtain ⟨⟨wt, qu, li, tg, rn⟩, hz⟩ : ∃ x, tth l k = x := ⟨_, rfl⟩
              rw [hz] at c0 c1 c2 c3 c4
              dsimp only at c0 c1 c2 c3 c4
              have HZ := Lib.hid hz
              clear hz
              have kn := Bk.new wr 36 #[.int .i64 wt, .int .i64 qu, .int .i64 li, .int .i64 tg, .int .i64 rn]
              have ba := (Below.refl wr.heap.size wr).alloc (Nat.le_refl _) (.cells #[.int .i64 wt, .int .i64 qu, .int .i64 li, .int .i64 tg, .int .i64 rn] 36)
              obtain ⟨W, hW⟩ : ∃ W, wr.alloc (.cells #[.int .i64 wt, .int .i64 qu, .int .i64 li, .int .i64 tg, .int .i64 rn] 36) = W := ⟨_, rfl⟩
              obtain ⟨gx, hg⟩ : ∃ g, wr.heap.size = g := ⟨_, rfl⟩
              have d1 := (ba.cell (p := ⟨bR, oR + k, none⟩) hbR).trans d0
              have hbR2 := Nat.lt_of_lt_of_le hbR ba.size
              have B1 := Lib.hid (below3 BW.out ba)
              rw [hW] at kn B1 d1 hbR2
              rw [hg] at kn
              obtain ⟨-, -, -, q3, -⟩ := kn.c5
              have lq := kn.lt
              have HWW := Lib.hid hW
              have HG2 := Lib.hid hg
              clear kn ba hW hg d0 hbR
              go_upto_region 22 with fail
              rw [HWW.out]
              try rw [HG2.out]
              clear HWW HG2 c0 c1 c2 c3 c4 hbL
              cases hbk : bth bs k with
              | false =>
                rw [hbk] at d1
                clear hbk
                go_wp2_with fail
                go_quiet (fail)
                go_wp2_with fail
                go_roundw
                case rel => exact ⟨k + 1, by omega, by go_num, Lib.hid (below_drewN B1.out _)⟩
                case measure => simp [intOf]; omega
              | true =>
                rw [hbk] at d1
                have hle := HLE.out k (by rw [LX.out]; exact hkn) hbk
                rw [HZ.out] at hle
                dsimp only at hle
                obtain ⟨b2, o2, e2, hb2, -, -, -, c5, -⟩ := (Tl.out.below B1.out).at_ hmn
                injection e2 with e2
                injection e2 with e3 e4
                subst e3 e4
                obtain ⟨ty, hty⟩ : ∃ t, (tth l mm).tg = t := ⟨_, rfl⟩
                rw [hty] at c5 hle
                have t6 : decide (tg < ty) = false := decide_eq_false (by omega)
                clear hbk hty
                by_cases hc : tg = ty
                · subst hc
                  have t7 : (tg == tg) = true := by simp
                  have t8 : decide ((k : Int) < (mm : Int)) = false := decide_eq_false (by omega)
                  have t9 : decide (k < mm) = false := decide_eq_false (by omega)
                  clear hle
                  go_wp2_with fail
                  go_quiet (fail)
                  go_wp2_with fail
                  go_roundw
                  case rel => exact ⟨k + 1, by omega, by go_num, Lib.hid (below_drewN B1.out _)⟩
                  case measure => simp [intOf]; omega
                · have t7 : (tg == ty) = false := by simpa using hc
                  clear hc hle
                  go_wp2_with fail
                  go_quiet (fail)
                  go_wp2_with fail
                  go_roundw
                  case rel => exact ⟨k + 1, by omega, by go_num, Lib.hid (below_drewN B1.out _)⟩
                  case measure => simp [intOf]; omega
            · obtain rfl : n = k := by omega
              obtain ⟨bR, oR, rfl, hbR, d0⟩ := (Fb.out.below BW.out).at_fr hmb
              rw [HBM.out] at d0
              have BE := Lib.hid (below3 BB.out BW.out)
              go_wp2
              go_ret
              exact ⟨rfl, BE.out⟩
        · have R2 := Lib.hid hls
          have R1 := Lib.hid h1
          have t3 : (e1 == 0) = false := by simpa using he
          clear he
          clear h1 hls
          go_enter Try.func7, Try.ntmps7
          go_wp2_with fail
          refine (live15_any _).mono ?_
          rintro e U0 ⟨rfl, b0⟩
          have BB := Lib.hid b0
          have Tl := Lib.hid (HX.out.below b0)
          have Fb := Lib.hid (Hb.out.below b0)
          clear b0
          go_wp2_with fail
          refine (charge_fr A n c l i u _ Tl.out HI.out HU.out HN.out).mono ?_
          rw [R1.out]
          rintro e U1 ⟨Aa, ca, rfl, oa, bU1⟩
          replace Tl := Lib.hid (Tl.out.below bU1)
          replace BB := Lib.hid (below3 BB.out bU1)
          replace Fb := Lib.hid (Fb.out.below bU1)
          have Ta := Lib.hid oa.tns
          have Ca := Lib.hid oa
          clear oa bU1
          try dsimp only
          clear Ta Ca
          go_wp2_with fail
          refine (least_fr _ B n c m _ l bs _ Tl.out Fb.out).mono ?_
          rw [R2.out]
          rintro e U2 ⟨rfl, bU2⟩
          replace Tl := Lib.hid (Tl.out.below bU2)
          replace BB := Lib.hid (below3 BB.out bU2)
          replace Fb := Lib.hid (Fb.out.below bU2)
          clear bU2
          try dsimp only
          go_wp2
          go_ret
          exact ⟨rfl, BB.out⟩
        · have R2 := Lib.hid hls
          have R1 := Lib.hid h1
          have t3 : (e1 == 0) = false := by simpa using he
          clear he
          clear h1 hls
          go_enter Try.func7, Try.ntmps7
          go_wp2_with fail
          refine (live15_any _).mono ?_
          rintro e U0 ⟨rfl, b0⟩
          have BB := Lib.hid b0
          have Tl := Lib.hid (HX.out.below b0)
          have Fb := Lib.hid (Hb.out.below b0)
          clear b0
          go_wp2_with fail
          refine (charge_fr A n c l i u _ Tl.out HI.out HU.out HN.out).mono ?_
          rw [R1.out]
          rintro e U1 ⟨Aa, ca, rfl, oa, bU1⟩
          replace Tl := Lib.hid (Tl.out.below bU1)
          replace BB := Lib.hid (below3 BB.out bU1)
          replace Fb := Lib.hid (Fb.out.below bU1)
          have Ta := Lib.hid oa.tns
          have Ca := Lib.hid oa
          clear oa bU1
          try dsimp only
          clear Ta Ca
          go_wp2_with fail
          refine (least_fr _ B n c m _ l bs _ Tl.out Fb.out).mono ?_
          rw [R2.out]
          rintro e U2 ⟨rfl, bU2⟩
          replace Tl := Lib.hid (Tl.out.below bU2)
          replace BB := Lib.hid (below3 BB.out bU2)
          replace Fb := Lib.hid (Fb.out.below bU2)
          clear bU2
          try dsimp only
          go_wp2
          go_ret
          exact ⟨rfl, BB.out⟩

end Go.Proofs.Ytnmllekbajeenaa

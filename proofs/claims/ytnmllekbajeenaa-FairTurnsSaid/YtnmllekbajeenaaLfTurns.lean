/-
  The law FairTurns of layer 15: the walk.
-/
import Derived.Test.YtnmllekbajeenaaLv15
namespace Go.Proofs.Ytnmllekbajeenaa
open Go.RowKit

set_option maxRecDepth 100000 in
set_option maxHeartbeats 8000000 in
theorem fairturns_any (a b : Int) (z : Nat) (hz : z ≤ 255) (w : World) :
    Calls Try.prog 6 #[.int .i64 a, .int .i64 b, .int .u8 (z : Int)] w (TrueAns w) := by
  by_cases g0 : a < 1
  · replace g0 : decide (a < 1) = true := decide_eq_true g0
    go_enter Try.func6, Try.ntmps6
    go_wp2_with fail
    refine (live15_any _).mono ?_
    rintro e U0 ⟨rfl, b0⟩
    have BB := Lib.hid b0
    clear b0
    go_wp2
    go_ret
    exact ⟨rfl, BB.out⟩
  · by_cases g1 : 16 < a
    · replace g0 : decide (a < 1) = false := decide_eq_false g0
      replace g1 : decide (16 < a) = true := decide_eq_true g1
      go_enter Try.func6, Try.ntmps6
      go_wp2_with fail
      refine (live15_any _).mono ?_
      rintro e U0 ⟨rfl, b0⟩
      have BB := Lib.hid b0
      clear b0
      go_wp2
      go_ret
      exact ⟨rfl, BB.out⟩
    · by_cases g2 : b < 1
      · replace g0 : decide (a < 1) = false := decide_eq_false g0
        replace g1 : decide (16 < a) = false := decide_eq_false g1
        replace g2 : decide (b < 1) = true := decide_eq_true g2
        go_enter Try.func6, Try.ntmps6
        go_wp2_with fail
        refine (live15_any _).mono ?_
        rintro e U0 ⟨rfl, b0⟩
        have BB := Lib.hid b0
        clear b0
        go_wp2
        go_ret
        exact ⟨rfl, BB.out⟩
      · by_cases g3 : 16 < b
        · replace g0 : decide (a < 1) = false := decide_eq_false g0
          replace g1 : decide (16 < a) = false := decide_eq_false g1
          replace g2 : decide (b < 1) = false := decide_eq_false g2
          replace g3 : decide (16 < b) = true := decide_eq_true g3
          go_enter Try.func6, Try.ntmps6
          go_wp2_with fail
          refine (live15_any _).mono ?_
          rintro e U0 ⟨rfl, b0⟩
          have BB := Lib.hid b0
          clear b0
          go_wp2
          go_ret
          exact ⟨rfl, BB.out⟩
        · have ha : 1 ≤ a ∧ a ≤ 16 := by omega
          have hb : 1 ≤ b ∧ b ≤ 16 := by omega
          replace g0 : decide (a < 1) = false := decide_eq_false g0
          replace g1 : decide (16 < a) = false := decide_eq_false g1
          replace g2 : decide (b < 1) = false := decide_eq_false g2
          replace g3 : decide (16 < b) = false := decide_eq_false g3
          have HA := Lib.hid ha
          have HB := Lib.hid hb
          have HFA : Hid (Fit a) := Lib.hid (by unfold Fit; omega)
          have HFB : Hid (Fit b) := Lib.hid (by unfold Fit; omega)
          have HNW : Hid (newLn [a, b] [1, 1] = (0, twoFr a b 0 0)) := Lib.hid (by rw [← make_two]; exact newLn_ok rfl (by rw [make_two]; exact two_new ha hb))
          clear ha hb
          go_enter Try.func6, Try.ntmps6
          go_wp2_with fail
          refine (live15_any _).mono ?_
          rintro e U0 ⟨rfl, b0⟩
          have BB := Lib.hid b0
          clear b0
          obtain ⟨k0, k1, b0⟩ := lies2 U0 #[.int .i64 a, .int .i64 b] #[.int .i64 1, .int .i64 1] 3 3
          have I0 := Lib.hid (ints2_fr k0 HFA.out HFB.out)
          have I1 := Lib.hid (ints2_fr k1 (by unfold Fit; decide) (by unfold Fit; decide))
          replace BB := Lib.hid (below3 BB.out b0)
          clear k0 k1 b0
          go_wp2_with fail
          refine (pnew_tn _ _ 2 2 2 2 _ _ _ I0.out I1.out).mono ?_
          rw [HNW.out]
          rintro e U1 ⟨A1, c1, rfl, o1, b1⟩
          have T1 := Lib.hid o1.tns
          replace BB := Lib.hid (below3 BB.out b1)
          clear o1 b1 I0 I1
          dsimp only at T1 ⊢
          rw [two_len] at T1 ⊢
          go_wp2
          go_loopw [8, 10, 11, 45] (fun t8 t10 t11 t wr => ∃ (k x y : Nat) (A : Option Addr) (c : Nat), k ≤ z ∧ t = .int .u8 k ∧ t10 = .int .i64 x ∧ t11 = .int .i64 y ∧ t8 = .slice A 2 c ∧ Hid (x + y = k) ∧ Hid (((x : Int) - 1) * b ≤ (y : Int) * a ∧ ((y : Int) - 1) * a ≤ (x : Int) * b) ∧ Hid (Tns wr A 2 c (twoFr a b x y)) ∧ Hid (Below w.heap.size w wr)) (fun _ _ _ t _ => z - (intOf t).toNat)
          case atStart => exact ⟨0, 0, 0, A1, c1, by omega, rfl, rfl, rfl, rfl, Lib.hid rfl, Lib.hid (by have := HA.out; have := HB.out; omega), T1, BB⟩
          case round =>
            clear T1 BB
            rename World => wr
            obtain ⟨k, x, y, A, c, hk, rfl, rfl, rfl, rfl, HXY, HBL, TT, BW⟩ := hrel
            by_cases hkn : k < z
            · have hx9 : x ≤ 255 := by have := HXY.out; omega
              have hy9 : y ≤ 255 := by have := HXY.out; omega
              have hok := (two_ok HA.out HB.out (x := x) (y := y) (by omega) (by omega)).1
              have HLS := Lib.hid (two_least hok)
              have hon := two_one HA.out HB.out (x := x) (y := y) (by omega) (by omega)
              clear hok
              by_cases hc : (y : Int) * oneFr b < (x : Int) * oneFr a
              · have hcmp := two_cmp HB.out HA.out (x := y) (y := x) (by omega)
                have HCH := Lib.hid hon.2
                clear hon
                rw [if_pos hc] at HLS
                clear hc
                have hin := HBL.out.1
                have hpos := HA.out
                have HBN : Hid ((((y + 1 : Nat) : Int) - 1) * a ≤ (x : Int) * b ∧ ((x : Int) - 1) * b ≤ ((y + 1 : Nat) : Int) * a) := Lib.hid (by
                  rw [show ((y + 1 : Nat) : Int) = (y : Int) + 1 by omega, show (y : Int) + 1 - 1 = (y : Int) by omega, Int.add_mul, Int.one_mul]
                  exact ⟨hcmp, by omega⟩)
                clear hpos
                obtain ⟨N, hN⟩ : ∃ N : Int, (y : Int) + 1 = N := ⟨_, rfl⟩
                have w1 : IntKind.i64.wrap ((y : Int) + 1) = N := by rw [IntKind.wrap_i64]; omega
                have w2 : IntKind.i64.wrap (N - 1) = (y : Int) := by rw [IntKind.wrap_i64]; omega
                have r1 := two_room (a := a) (x := y) HA.out (by omega)
                have r2 := two_room (a := b) (x := x) HB.out (by omega)
                have r3 := two_room (a := a) (x := N) HA.out (by omega)
                obtain ⟨M, hM⟩ : ∃ M : Int, (x : Int) - 1 = M := ⟨_, rfl⟩
                have w3 : IntKind.i64.wrap ((x : Int) - 1) = M := by rw [IntKind.wrap_i64]; omega
                have r4 := two_room (a := b) (x := M) HB.out (by omega)
                rw [hM] at hin
                have m2 : N * a = (y : Int) * a + a := by rw [← hN, Int.add_mul, Int.one_mul]
                have hab := HA.out
                have hbb := HB.out
                obtain ⟨p1, ep1⟩ : ∃ q : Int, (y : Int) * a = q := ⟨_, rfl⟩
                obtain ⟨p2, ep2⟩ : ∃ q : Int, (x : Int) * b = q := ⟨_, rfl⟩
                obtain ⟨p3, ep3⟩ : ∃ q : Int, N * a = q := ⟨_, rfl⟩
                obtain ⟨p4, ep4⟩ : ∃ q : Int, M * b = q := ⟨_, rfl⟩
                rw [ep1] at r1 hcmp m2 hin
                rw [ep2] at r2 hcmp
                rw [ep3] at r3 m2
                rw [ep4] at r4 hin
                have wp1 : IntKind.i64.wrap ((y : Int) * a) = p1 := by rw [ep1, IntKind.wrap_i64]; omega
                have wp2 : IntKind.i64.wrap ((x : Int) * b) = p2 := by rw [ep2, IntKind.wrap_i64]; omega
                have wp3 : IntKind.i64.wrap (N * a) = p3 := by rw [ep3, IntKind.wrap_i64]; omega
                have wp4 : IntKind.i64.wrap (M * b) = p4 := by rw [ep4, IntKind.wrap_i64]; omega
                have t1 : decide (p2 < p1) = false := decide_eq_false (by omega)
                have t2 : decide (p3 < p4) = false := decide_eq_false (by omega)
                have HNN := Lib.hid hN
                clear hN hM r1 r2 r3 r4 hin m2 hab hbb hcmp ep1 ep2 ep3 ep4
                have wk : IntKind.u8.wrap ((k : Int) + 1) = (k : Int) + 1 := by rw [IntKind.wrap_u8]; omega
                have hxs : (y : Int) + 1 = ((y + 1 : Nat) : Int) := by omega
                rw [hxs] at HCH
                clear hxs
                obtain ⟨kf, bf⟩ := lay1 wr #[.bool true, .bool true] 4
                have F0 := Lib.hid (flags2_fr kf)
                have T0 := Lib.hid (TT.out.below bf)
                have B0 := Lib.hid (below3 BW.out bf)
                clear kf bf
                go_wp2_with fail
                refine (least_fr A _ 2 c 2 2 _ _ _ T0.out F0.out).mono ?_
                rw [HLS.out]
                rintro e U2 ⟨rfl, b2⟩
                dsimp only
                have T2 := Lib.hid (T0.out.below b2)
                have B2 := Lib.hid (below3 B0.out b2)
                clear b2 T0 F0 B0
                go_wp2_with fail
                refine (charge_fr A 2 c _ 1 1 _ T2.out (by unfold Fit; decide) (by unfold Fit; decide) (by decide)).mono ?_
                rw [HCH.out]
                rintro e U3 ⟨A3, c3, rfl, o3, b3⟩
                have T3 := Lib.hid o3.tns
                have B3 := Lib.hid (below3 B2.out b3)
                clear o3 b3 T2 B2
                dsimp only at T3 ⊢
                rw [two_len] at T3 ⊢
                go_wp2
                go_roundw
                case rel => exact ⟨k + 1, x, y + 1, A3, c3, by omega, by go_num, rfl, (by rw [← HNN.out]; rfl), rfl, Lib.hid (by have := HXY.out; omega), Lib.hid ⟨HBN.out.2, HBN.out.1⟩, T3, B3⟩
                case measure => simp [intOf]; omega
              · have hcmp := two_cmp HA.out HB.out (x := x) (y := y) (by omega)
                have HCH := Lib.hid hon.1
                clear hon
                rw [if_neg hc] at HLS
                clear hc
                have hin := HBL.out.2
                have hpos := HB.out
                have HBN : Hid ((((x + 1 : Nat) : Int) - 1) * b ≤ (y : Int) * a ∧ ((y : Int) - 1) * a ≤ ((x + 1 : Nat) : Int) * b) := Lib.hid (by
                  rw [show ((x + 1 : Nat) : Int) = (x : Int) + 1 by omega, show (x : Int) + 1 - 1 = (x : Int) by omega, Int.add_mul, Int.one_mul]
                  exact ⟨hcmp, by omega⟩)
                clear hpos
                obtain ⟨N, hN⟩ : ∃ N : Int, (x : Int) + 1 = N := ⟨_, rfl⟩
                have w1 : IntKind.i64.wrap ((x : Int) + 1) = N := by rw [IntKind.wrap_i64]; omega
                have w2 : IntKind.i64.wrap (N - 1) = (x : Int) := by rw [IntKind.wrap_i64]; omega
                have r1 := two_room (a := b) (x := x) HB.out (by omega)
                have r2 := two_room (a := a) (x := y) HA.out (by omega)
                have r3 := two_room (a := b) (x := N) HB.out (by omega)
                obtain ⟨M, hM⟩ : ∃ M : Int, (y : Int) - 1 = M := ⟨_, rfl⟩
                have w3 : IntKind.i64.wrap ((y : Int) - 1) = M := by rw [IntKind.wrap_i64]; omega
                have r4 := two_room (a := a) (x := M) HA.out (by omega)
                rw [hM] at hin
                have m2 : N * b = (x : Int) * b + b := by rw [← hN, Int.add_mul, Int.one_mul]
                have hab := HA.out
                have hbb := HB.out
                obtain ⟨p1, ep1⟩ : ∃ q : Int, (x : Int) * b = q := ⟨_, rfl⟩
                obtain ⟨p2, ep2⟩ : ∃ q : Int, (y : Int) * a = q := ⟨_, rfl⟩
                obtain ⟨p3, ep3⟩ : ∃ q : Int, N * b = q := ⟨_, rfl⟩
                obtain ⟨p4, ep4⟩ : ∃ q : Int, M * a = q := ⟨_, rfl⟩
                rw [ep1] at r1 hcmp m2 hin
                rw [ep2] at r2 hcmp
                rw [ep3] at r3 m2
                rw [ep4] at r4 hin
                have wp1 : IntKind.i64.wrap ((x : Int) * b) = p1 := by rw [ep1, IntKind.wrap_i64]; omega
                have wp2 : IntKind.i64.wrap ((y : Int) * a) = p2 := by rw [ep2, IntKind.wrap_i64]; omega
                have wp3 : IntKind.i64.wrap (N * b) = p3 := by rw [ep3, IntKind.wrap_i64]; omega
                have wp4 : IntKind.i64.wrap (M * a) = p4 := by rw [ep4, IntKind.wrap_i64]; omega
                have t1 : decide (p2 < p1) = false := decide_eq_false (by omega)
                have t2 : decide (p3 < p4) = false := decide_eq_false (by omega)
                have HNN := Lib.hid hN
                clear hN hM r1 r2 r3 r4 hin m2 hab hbb hcmp ep1 ep2 ep3 ep4
                have wk : IntKind.u8.wrap ((k : Int) + 1) = (k : Int) + 1 := by rw [IntKind.wrap_u8]; omega
                have hxs : (x : Int) + 1 = ((x + 1 : Nat) : Int) := by omega
                rw [hxs] at HCH
                clear hxs
                obtain ⟨kf, bf⟩ := lay1 wr #[.bool true, .bool true] 4
                have F0 := Lib.hid (flags2_fr kf)
                have T0 := Lib.hid (TT.out.below bf)
                have B0 := Lib.hid (below3 BW.out bf)
                clear kf bf
                go_wp2_with fail
                refine (least_fr A _ 2 c 2 2 _ _ _ T0.out F0.out).mono ?_
                rw [HLS.out]
                rintro e U2 ⟨rfl, b2⟩
                dsimp only
                have T2 := Lib.hid (T0.out.below b2)
                have B2 := Lib.hid (below3 B0.out b2)
                clear b2 T0 F0 B0
                go_wp2_with fail
                refine (charge_fr A 2 c _ 0 1 _ T2.out (by unfold Fit; decide) (by unfold Fit; decide) (by decide)).mono ?_
                rw [HCH.out]
                rintro e U3 ⟨A3, c3, rfl, o3, b3⟩
                have T3 := Lib.hid o3.tns
                have B3 := Lib.hid (below3 B2.out b3)
                clear o3 b3 T2 B2
                dsimp only at T3 ⊢
                rw [two_len] at T3 ⊢
                go_wp2
                go_roundw
                case rel => exact ⟨k + 1, x + 1, y, A3, c3, by omega, by go_num, (by rw [← HNN.out]; rfl), rfl, rfl, Lib.hid (by have := HXY.out; omega), HBN, T3, B3⟩
                case measure => simp [intOf]; omega
            · obtain rfl : z = k := by omega
              have we : IntKind.i64.wrap ((x : Int) + (y : Int)) = (z : Int) := by
                have := HXY.out
                rw [IntKind.wrap_i64]; omega
              have wz : IntKind.i64.wrap (z : Int) = (z : Int) := by rw [IntKind.wrap_i64]; omega
              go_wp2
              go_ret
              exact ⟨rfl, BW.out⟩

end Go.Proofs.Ytnmllekbajeenaa

/-
  Layer 14: the document's Check and Find; both Sames; both Alls; Clone and With.
-/
import Derived.Test.YtnmllekbajeenaaTna
namespace Go.Proofs.Ytnmllekbajeenaa
open Go.RowKit

set_option maxHeartbeats 4000000 in
theorem rchk_tn (A : Option Addr) (n c : Nat) (l : List Tn) (w : World) (hx : Tns w A n c l) :
    Calls Try.prog 32 #[.slice A n c] w (RetB (.int .i64 (chkLn l)) w) := by
  have HX := Lib.hid hx
  have LX := Lib.hid hx.1
  have hnc := hx.2.1
  clear hx
  obtain ⟨r, hr⟩ : ∃ r, chkLn l = r := ⟨_, rfl⟩
  rw [hr]
  have HRR := Lib.hid hr
  clear hr
  by_cases g0 : (n : Int) < 1
  · have HR : Hid (chkLn l = 1) := Lib.hid (chkLn_no (fun q => by have := q.1; rw [LX.out] at this; omega))
    replace g0 : decide ((n : Int) < 1) = true := decide_eq_true g0
    go_enter Try.func32, Try.ntmps32
    go_wp2
    go_ret
    exact RetB.of (ret_i64 (by rw [← HRR.out, HR.out])) (Below.refl _ _)
  · by_cases g1 : 16 < (n : Int)
    · have HR : Hid (chkLn l = 1) := Lib.hid (chkLn_no (fun q => by have := q.1; rw [LX.out] at this; omega))
      replace g0 : decide ((n : Int) < 1) = false := decide_eq_false g0
      replace g1 : decide (16 < (n : Int)) = true := decide_eq_true g1
      go_enter Try.func32, Try.ntmps32
      go_wp2
      go_ret
      exact RetB.of (ret_i64 (by rw [← HRR.out, HR.out])) (Below.refl _ _)
    · have HN : Hid (1 ≤ l.length ∧ l.length ≤ 16) := Lib.hid (by rw [LX.out]; omega)
      replace g0 : decide ((n : Int) < 1) = false := decide_eq_false g0
      replace g1 : decide (16 < (n : Int)) = false := decide_eq_false g1
      go_enter Try.func32, Try.ntmps32
      go_wp2
      go_loopw [15] (fun t wr => ∃ k : Nat, k ≤ n ∧ t = .int .i64 k ∧ Hid (Below w.heap.size w wr ∧ ∀ j, j < k → okTn (tth l j))) (fun t _ => n - (intOf t).toNat)
      case atStart => exact ⟨0, Nat.zero_le _, rfl, Lib.hid ⟨Below.refl _ _, fun i hi => by omega⟩⟩
      case round =>
        rename World => wr
        obtain ⟨k, hk, rfl, OK⟩ := hrel
        by_cases hkn : k < n
        · obtain ⟨bL, oL, rfl, hbL, c0, c1, c2, c3, c4⟩ := (HX.out.below OK.out.1).at_ hkn
          obtain ⟨⟨wt, qu, li, tg, rn⟩, hz⟩ : ∃ x, tth l k = x := ⟨_, rfl⟩
          rw [hz] at c0 c1 c2 c3 c4
          dsimp only at c0 c1 c2 c3 c4
          have HZ := Lib.hid hz
          clear hz
          by_cases f0 : 1 ≤ wt ∧ wt ≤ 16
          · by_cases f1 : 0 ≤ qu ∧ qu ≤ 256
            · by_cases f2 : li < 0
              · have HR : Hid (chkLn l = 1) := Lib.hid (chkLn_no (fun q => by have q := q.2 k (by rw [LX.out]; exact hkn); rw [HZ.out] at q; have q := q.2.2.1; dsimp only at q; omega))
                have F0 := Lib.hid (decide_eq_true f0)
                clear f0
                have F1 := Lib.hid (decide_eq_true f1)
                clear f1
                replace f2 : decide (li < 0) = true := decide_eq_true f2
                have BB := Lib.hid OK.out.1
                have HO := Lib.hid OK.out.2
                clear OK
                have kn := Bk.new wr 36 #[.int .i64 wt, .int .i64 qu, .int .i64 li, .int .i64 tg, .int .i64 rn]
                have ba := (Below.refl wr.heap.size wr).alloc (Nat.le_refl _) (.cells #[.int .i64 wt, .int .i64 qu, .int .i64 li, .int .i64 tg, .int .i64 rn] 36)
                have hgb := BB.out.size
                replace BB := Lib.hid (below3 BB.out ba)
                obtain ⟨gx, hg⟩ : ∃ g, wr.heap.size = g := ⟨_, rfl⟩
                obtain ⟨V1, hW⟩ : ∃ W, wr.alloc (.cells #[.int .i64 wt, .int .i64 qu, .int .i64 li, .int .i64 tg, .int .i64 rn] 36) = W := ⟨_, rfl⟩
                have Kx := Lib.hid kn
                rw [hW] at BB Kx
                rw [hg] at Kx hgb
                have HGx := Lib.hid hg
                have HWx := Lib.hid hW
                have HBx := Lib.hid hgb
                clear hW hg kn ba hgb
                go_upto_region 6 with fail
                rw [HWx.out]
                try rw [HGx.out]
                clear HWx HGx
                clear c0 c1 c2 c3 c4 hbL
                obtain ⟨qx_0, qx_1, qx_2, qx_3, qx_4⟩ := Kx.out.c5
                have lx := Kx.out.lt
                go_wp2_with fail
                refine (rin_any wt 1 16 _).mono ?_
                rw [F0.out]
                rintro e U2 ⟨rfl, bU2⟩
                clear qx_0 qx_1 qx_2 qx_3 qx_4 lx
                replace BB := Lib.hid (below3 BB.out bU2)
                replace Kx := Lib.hid (Kx.out.below bU2 Kx.out.lt)
                clear bU2
                obtain ⟨qx_0, qx_1, qx_2, qx_3, qx_4⟩ := Kx.out.c5
                have lx := Kx.out.lt
                go_wp2_with fail
                refine (rin_any qu 0 256 _).mono ?_
                rw [F1.out]
                rintro e U3 ⟨rfl, bU3⟩
                clear qx_0 qx_1 qx_2 qx_3 qx_4 lx
                replace BB := Lib.hid (below3 BB.out bU3)
                replace Kx := Lib.hid (Kx.out.below bU3 Kx.out.lt)
                clear bU3
                obtain ⟨qx_0, qx_1, qx_2, qx_3, qx_4⟩ := Kx.out.c5
                have lx := Kx.out.lt
                go_wp2
                go_ret
                exact RetB.of (ret_i64 (by rw [← HRR.out, HR.out])) BB.out
              · by_cases f3 : qu < li
                · have HR : Hid (chkLn l = 1) := Lib.hid (chkLn_no (fun q => by have q := q.2 k (by rw [LX.out]; exact hkn); rw [HZ.out] at q; have q := q.2.2.1; dsimp only at q; omega))
                  have F0 := Lib.hid (decide_eq_true f0)
                  clear f0
                  have F1 := Lib.hid (decide_eq_true f1)
                  clear f1
                  replace f2 : decide (li < 0) = false := decide_eq_false f2
                  replace f3 : decide (qu < li) = true := decide_eq_true f3
                  have BB := Lib.hid OK.out.1
                  have HO := Lib.hid OK.out.2
                  clear OK
                  have kn := Bk.new wr 36 #[.int .i64 wt, .int .i64 qu, .int .i64 li, .int .i64 tg, .int .i64 rn]
                  have ba := (Below.refl wr.heap.size wr).alloc (Nat.le_refl _) (.cells #[.int .i64 wt, .int .i64 qu, .int .i64 li, .int .i64 tg, .int .i64 rn] 36)
                  have hgb := BB.out.size
                  replace BB := Lib.hid (below3 BB.out ba)
                  obtain ⟨gx, hg⟩ : ∃ g, wr.heap.size = g := ⟨_, rfl⟩
                  obtain ⟨V1, hW⟩ : ∃ W, wr.alloc (.cells #[.int .i64 wt, .int .i64 qu, .int .i64 li, .int .i64 tg, .int .i64 rn] 36) = W := ⟨_, rfl⟩
                  have Kx := Lib.hid kn
                  rw [hW] at BB Kx
                  rw [hg] at Kx hgb
                  have HGx := Lib.hid hg
                  have HWx := Lib.hid hW
                  have HBx := Lib.hid hgb
                  clear hW hg kn ba hgb
                  go_upto_region 6 with fail
                  rw [HWx.out]
                  try rw [HGx.out]
                  clear HWx HGx
                  clear c0 c1 c2 c3 c4 hbL
                  obtain ⟨qx_0, qx_1, qx_2, qx_3, qx_4⟩ := Kx.out.c5
                  have lx := Kx.out.lt
                  go_wp2_with fail
                  refine (rin_any wt 1 16 _).mono ?_
                  rw [F0.out]
                  rintro e U2 ⟨rfl, bU2⟩
                  clear qx_0 qx_1 qx_2 qx_3 qx_4 lx
                  replace BB := Lib.hid (below3 BB.out bU2)
                  replace Kx := Lib.hid (Kx.out.below bU2 Kx.out.lt)
                  clear bU2
                  obtain ⟨qx_0, qx_1, qx_2, qx_3, qx_4⟩ := Kx.out.c5
                  have lx := Kx.out.lt
                  go_wp2_with fail
                  refine (rin_any qu 0 256 _).mono ?_
                  rw [F1.out]
                  rintro e U3 ⟨rfl, bU3⟩
                  clear qx_0 qx_1 qx_2 qx_3 qx_4 lx
                  replace BB := Lib.hid (below3 BB.out bU3)
                  replace Kx := Lib.hid (Kx.out.below bU3 Kx.out.lt)
                  clear bU3
                  obtain ⟨qx_0, qx_1, qx_2, qx_3, qx_4⟩ := Kx.out.c5
                  have lx := Kx.out.lt
                  go_wp2
                  go_ret
                  exact RetB.of (ret_i64 (by rw [← HRR.out, HR.out])) BB.out
                · by_cases f4 : 0 ≤ tg ∧ tg ≤ 1152921504606846976
                  · by_cases f5 : 0 ≤ rn ∧ rn ≤ 1099511627776
                    · have HT := Lib.hid (show okTn (⟨wt, qu, li, tg, rn⟩ : Tn) from ⟨f0, f1, ⟨by show 0 ≤ li; omega, by show li ≤ qu; omega⟩, f4, f5⟩)
                      have F0 := Lib.hid (decide_eq_true f0)
                      clear f0
                      have F1 := Lib.hid (decide_eq_true f1)
                      clear f1
                      replace f2 : decide (li < 0) = false := decide_eq_false f2
                      replace f3 : decide (qu < li) = false := decide_eq_false f3
                      have F4 := Lib.hid (decide_eq_true f4)
                      clear f4
                      have F5 := Lib.hid (decide_eq_true f5)
                      clear f5
                      have BB := Lib.hid OK.out.1
                      have HO := Lib.hid OK.out.2
                      clear OK
                      have kn := Bk.new wr 36 #[.int .i64 wt, .int .i64 qu, .int .i64 li, .int .i64 tg, .int .i64 rn]
                      have ba := (Below.refl wr.heap.size wr).alloc (Nat.le_refl _) (.cells #[.int .i64 wt, .int .i64 qu, .int .i64 li, .int .i64 tg, .int .i64 rn] 36)
                      have hgb := BB.out.size
                      replace BB := Lib.hid (below3 BB.out ba)
                      obtain ⟨gx, hg⟩ : ∃ g, wr.heap.size = g := ⟨_, rfl⟩
                      obtain ⟨V1, hW⟩ : ∃ W, wr.alloc (.cells #[.int .i64 wt, .int .i64 qu, .int .i64 li, .int .i64 tg, .int .i64 rn] 36) = W := ⟨_, rfl⟩
                      have Kx := Lib.hid kn
                      rw [hW] at BB Kx
                      rw [hg] at Kx hgb
                      have HGx := Lib.hid hg
                      have HWx := Lib.hid hW
                      have HBx := Lib.hid hgb
                      clear hW hg kn ba hgb
                      go_upto_region 6 with fail
                      rw [HWx.out]
                      try rw [HGx.out]
                      clear HWx HGx
                      clear c0 c1 c2 c3 c4 hbL
                      obtain ⟨qx_0, qx_1, qx_2, qx_3, qx_4⟩ := Kx.out.c5
                      have lx := Kx.out.lt
                      go_wp2_with fail
                      refine (rin_any wt 1 16 _).mono ?_
                      rw [F0.out]
                      rintro e U2 ⟨rfl, bU2⟩
                      clear qx_0 qx_1 qx_2 qx_3 qx_4 lx
                      replace BB := Lib.hid (below3 BB.out bU2)
                      replace Kx := Lib.hid (Kx.out.below bU2 Kx.out.lt)
                      clear bU2
                      obtain ⟨qx_0, qx_1, qx_2, qx_3, qx_4⟩ := Kx.out.c5
                      have lx := Kx.out.lt
                      go_wp2_with fail
                      refine (rin_any qu 0 256 _).mono ?_
                      rw [F1.out]
                      rintro e U3 ⟨rfl, bU3⟩
                      clear qx_0 qx_1 qx_2 qx_3 qx_4 lx
                      replace BB := Lib.hid (below3 BB.out bU3)
                      replace Kx := Lib.hid (Kx.out.below bU3 Kx.out.lt)
                      clear bU3
                      obtain ⟨qx_0, qx_1, qx_2, qx_3, qx_4⟩ := Kx.out.c5
                      have lx := Kx.out.lt
                      go_wp2_with fail
                      refine (rin_any tg 0 1152921504606846976 _).mono ?_
                      rw [F4.out]
                      rintro e U4 ⟨rfl, bU4⟩
                      clear qx_0 qx_1 qx_2 qx_3 qx_4 lx
                      replace BB := Lib.hid (below3 BB.out bU4)
                      replace Kx := Lib.hid (Kx.out.below bU4 Kx.out.lt)
                      clear bU4
                      obtain ⟨qx_0, qx_1, qx_2, qx_3, qx_4⟩ := Kx.out.c5
                      have lx := Kx.out.lt
                      go_wp2_with fail
                      refine (rin_any rn 0 1099511627776 _).mono ?_
                      rw [F5.out]
                      rintro e U5 ⟨rfl, bU5⟩
                      clear qx_0 qx_1 qx_2 qx_3 qx_4 lx
                      replace BB := Lib.hid (below3 BB.out bU5)
                      replace Kx := Lib.hid (Kx.out.below bU5 Kx.out.lt)
                      clear bU5
                      obtain ⟨qx_0, qx_1, qx_2, qx_3, qx_4⟩ := Kx.out.c5
                      have lx := Kx.out.lt
                      go_wp2
                      go_roundw
                      case rel => exact ⟨k + 1, by omega, by go_num, Lib.hid ⟨BB.out, fun j hj => by
                        rcases Nat.lt_or_ge j k with h | h
                        · exact HO.out j h
                        · obtain rfl : j = k := by omega
                          rw [HZ.out]; exact HT.out⟩⟩
                      case measure => simp [intOf]; omega
                    · have HR : Hid (chkLn l = 1) := Lib.hid (chkLn_no (fun q => by have q := q.2 k (by rw [LX.out]; exact hkn); rw [HZ.out] at q; exact f5 q.2.2.2.2))
                      have F0 := Lib.hid (decide_eq_true f0)
                      clear f0
                      have F1 := Lib.hid (decide_eq_true f1)
                      clear f1
                      replace f2 : decide (li < 0) = false := decide_eq_false f2
                      replace f3 : decide (qu < li) = false := decide_eq_false f3
                      have F4 := Lib.hid (decide_eq_true f4)
                      clear f4
                      have F5 := Lib.hid (decide_eq_false f5)
                      clear f5
                      have BB := Lib.hid OK.out.1
                      have HO := Lib.hid OK.out.2
                      clear OK
                      have kn := Bk.new wr 36 #[.int .i64 wt, .int .i64 qu, .int .i64 li, .int .i64 tg, .int .i64 rn]
                      have ba := (Below.refl wr.heap.size wr).alloc (Nat.le_refl _) (.cells #[.int .i64 wt, .int .i64 qu, .int .i64 li, .int .i64 tg, .int .i64 rn] 36)
                      have hgb := BB.out.size
                      replace BB := Lib.hid (below3 BB.out ba)
                      obtain ⟨gx, hg⟩ : ∃ g, wr.heap.size = g := ⟨_, rfl⟩
                      obtain ⟨V1, hW⟩ : ∃ W, wr.alloc (.cells #[.int .i64 wt, .int .i64 qu, .int .i64 li, .int .i64 tg, .int .i64 rn] 36) = W := ⟨_, rfl⟩
                      have Kx := Lib.hid kn
                      rw [hW] at BB Kx
                      rw [hg] at Kx hgb
                      have HGx := Lib.hid hg
                      have HWx := Lib.hid hW
                      have HBx := Lib.hid hgb
                      clear hW hg kn ba hgb
                      go_upto_region 6 with fail
                      rw [HWx.out]
                      try rw [HGx.out]
                      clear HWx HGx
                      clear c0 c1 c2 c3 c4 hbL
                      obtain ⟨qx_0, qx_1, qx_2, qx_3, qx_4⟩ := Kx.out.c5
                      have lx := Kx.out.lt
                      go_wp2_with fail
                      refine (rin_any wt 1 16 _).mono ?_
                      rw [F0.out]
                      rintro e U2 ⟨rfl, bU2⟩
                      clear qx_0 qx_1 qx_2 qx_3 qx_4 lx
                      replace BB := Lib.hid (below3 BB.out bU2)
                      replace Kx := Lib.hid (Kx.out.below bU2 Kx.out.lt)
                      clear bU2
                      obtain ⟨qx_0, qx_1, qx_2, qx_3, qx_4⟩ := Kx.out.c5
                      have lx := Kx.out.lt
                      go_wp2_with fail
                      refine (rin_any qu 0 256 _).mono ?_
                      rw [F1.out]
                      rintro e U3 ⟨rfl, bU3⟩
                      clear qx_0 qx_1 qx_2 qx_3 qx_4 lx
                      replace BB := Lib.hid (below3 BB.out bU3)
                      replace Kx := Lib.hid (Kx.out.below bU3 Kx.out.lt)
                      clear bU3
                      obtain ⟨qx_0, qx_1, qx_2, qx_3, qx_4⟩ := Kx.out.c5
                      have lx := Kx.out.lt
                      go_wp2_with fail
                      refine (rin_any tg 0 1152921504606846976 _).mono ?_
                      rw [F4.out]
                      rintro e U4 ⟨rfl, bU4⟩
                      clear qx_0 qx_1 qx_2 qx_3 qx_4 lx
                      replace BB := Lib.hid (below3 BB.out bU4)
                      replace Kx := Lib.hid (Kx.out.below bU4 Kx.out.lt)
                      clear bU4
                      obtain ⟨qx_0, qx_1, qx_2, qx_3, qx_4⟩ := Kx.out.c5
                      have lx := Kx.out.lt
                      go_wp2_with fail
                      refine (rin_any rn 0 1099511627776 _).mono ?_
                      rw [F5.out]
                      rintro e U5 ⟨rfl, bU5⟩
                      clear qx_0 qx_1 qx_2 qx_3 qx_4 lx
                      replace BB := Lib.hid (below3 BB.out bU5)
                      replace Kx := Lib.hid (Kx.out.below bU5 Kx.out.lt)
                      clear bU5
                      obtain ⟨qx_0, qx_1, qx_2, qx_3, qx_4⟩ := Kx.out.c5
                      have lx := Kx.out.lt
                      go_wp2
                      go_ret
                      exact RetB.of (ret_i64 (by rw [← HRR.out, HR.out])) BB.out
                  · have HR : Hid (chkLn l = 1) := Lib.hid (chkLn_no (fun q => by have q := q.2 k (by rw [LX.out]; exact hkn); rw [HZ.out] at q; exact f4 q.2.2.2.1))
                    have F0 := Lib.hid (decide_eq_true f0)
                    clear f0
                    have F1 := Lib.hid (decide_eq_true f1)
                    clear f1
                    replace f2 : decide (li < 0) = false := decide_eq_false f2
                    replace f3 : decide (qu < li) = false := decide_eq_false f3
                    have F4 := Lib.hid (decide_eq_false f4)
                    clear f4
                    have BB := Lib.hid OK.out.1
                    have HO := Lib.hid OK.out.2
                    clear OK
                    have kn := Bk.new wr 36 #[.int .i64 wt, .int .i64 qu, .int .i64 li, .int .i64 tg, .int .i64 rn]
                    have ba := (Below.refl wr.heap.size wr).alloc (Nat.le_refl _) (.cells #[.int .i64 wt, .int .i64 qu, .int .i64 li, .int .i64 tg, .int .i64 rn] 36)
                    have hgb := BB.out.size
                    replace BB := Lib.hid (below3 BB.out ba)
                    obtain ⟨gx, hg⟩ : ∃ g, wr.heap.size = g := ⟨_, rfl⟩
                    obtain ⟨V1, hW⟩ : ∃ W, wr.alloc (.cells #[.int .i64 wt, .int .i64 qu, .int .i64 li, .int .i64 tg, .int .i64 rn] 36) = W := ⟨_, rfl⟩
                    have Kx := Lib.hid kn
                    rw [hW] at BB Kx
                    rw [hg] at Kx hgb
                    have HGx := Lib.hid hg
                    have HWx := Lib.hid hW
                    have HBx := Lib.hid hgb
                    clear hW hg kn ba hgb
                    go_upto_region 6 with fail
                    rw [HWx.out]
                    try rw [HGx.out]
                    clear HWx HGx
                    clear c0 c1 c2 c3 c4 hbL
                    obtain ⟨qx_0, qx_1, qx_2, qx_3, qx_4⟩ := Kx.out.c5
                    have lx := Kx.out.lt
                    go_wp2_with fail
                    refine (rin_any wt 1 16 _).mono ?_
                    rw [F0.out]
                    rintro e U2 ⟨rfl, bU2⟩
                    clear qx_0 qx_1 qx_2 qx_3 qx_4 lx
                    replace BB := Lib.hid (below3 BB.out bU2)
                    replace Kx := Lib.hid (Kx.out.below bU2 Kx.out.lt)
                    clear bU2
                    obtain ⟨qx_0, qx_1, qx_2, qx_3, qx_4⟩ := Kx.out.c5
                    have lx := Kx.out.lt
                    go_wp2_with fail
                    refine (rin_any qu 0 256 _).mono ?_
                    rw [F1.out]
                    rintro e U3 ⟨rfl, bU3⟩
                    clear qx_0 qx_1 qx_2 qx_3 qx_4 lx
                    replace BB := Lib.hid (below3 BB.out bU3)
                    replace Kx := Lib.hid (Kx.out.below bU3 Kx.out.lt)
                    clear bU3
                    obtain ⟨qx_0, qx_1, qx_2, qx_3, qx_4⟩ := Kx.out.c5
                    have lx := Kx.out.lt
                    go_wp2_with fail
                    refine (rin_any tg 0 1152921504606846976 _).mono ?_
                    rw [F4.out]
                    rintro e U4 ⟨rfl, bU4⟩
                    clear qx_0 qx_1 qx_2 qx_3 qx_4 lx
                    replace BB := Lib.hid (below3 BB.out bU4)
                    replace Kx := Lib.hid (Kx.out.below bU4 Kx.out.lt)
                    clear bU4
                    obtain ⟨qx_0, qx_1, qx_2, qx_3, qx_4⟩ := Kx.out.c5
                    have lx := Kx.out.lt
                    go_wp2
                    go_ret
                    exact RetB.of (ret_i64 (by rw [← HRR.out, HR.out])) BB.out
            · have HR : Hid (chkLn l = 1) := Lib.hid (chkLn_no (fun q => by have q := q.2 k (by rw [LX.out]; exact hkn); rw [HZ.out] at q; exact f1 q.2.1))
              have F0 := Lib.hid (decide_eq_true f0)
              clear f0
              have F1 := Lib.hid (decide_eq_false f1)
              clear f1
              have BB := Lib.hid OK.out.1
              have HO := Lib.hid OK.out.2
              clear OK
              have kn := Bk.new wr 36 #[.int .i64 wt, .int .i64 qu, .int .i64 li, .int .i64 tg, .int .i64 rn]
              have ba := (Below.refl wr.heap.size wr).alloc (Nat.le_refl _) (.cells #[.int .i64 wt, .int .i64 qu, .int .i64 li, .int .i64 tg, .int .i64 rn] 36)
              have hgb := BB.out.size
              replace BB := Lib.hid (below3 BB.out ba)
              obtain ⟨gx, hg⟩ : ∃ g, wr.heap.size = g := ⟨_, rfl⟩
              obtain ⟨V1, hW⟩ : ∃ W, wr.alloc (.cells #[.int .i64 wt, .int .i64 qu, .int .i64 li, .int .i64 tg, .int .i64 rn] 36) = W := ⟨_, rfl⟩
              have Kx := Lib.hid kn
              rw [hW] at BB Kx
              rw [hg] at Kx hgb
              have HGx := Lib.hid hg
              have HWx := Lib.hid hW
              have HBx := Lib.hid hgb
              clear hW hg kn ba hgb
              go_upto_region 6 with fail
              rw [HWx.out]
              try rw [HGx.out]
              clear HWx HGx
              clear c0 c1 c2 c3 c4 hbL
              obtain ⟨qx_0, qx_1, qx_2, qx_3, qx_4⟩ := Kx.out.c5
              have lx := Kx.out.lt
              go_wp2_with fail
              refine (rin_any wt 1 16 _).mono ?_
              rw [F0.out]
              rintro e U2 ⟨rfl, bU2⟩
              clear qx_0 qx_1 qx_2 qx_3 qx_4 lx
              replace BB := Lib.hid (below3 BB.out bU2)
              replace Kx := Lib.hid (Kx.out.below bU2 Kx.out.lt)
              clear bU2
              obtain ⟨qx_0, qx_1, qx_2, qx_3, qx_4⟩ := Kx.out.c5
              have lx := Kx.out.lt
              go_wp2_with fail
              refine (rin_any qu 0 256 _).mono ?_
              rw [F1.out]
              rintro e U3 ⟨rfl, bU3⟩
              clear qx_0 qx_1 qx_2 qx_3 qx_4 lx
              replace BB := Lib.hid (below3 BB.out bU3)
              replace Kx := Lib.hid (Kx.out.below bU3 Kx.out.lt)
              clear bU3
              obtain ⟨qx_0, qx_1, qx_2, qx_3, qx_4⟩ := Kx.out.c5
              have lx := Kx.out.lt
              go_wp2
              go_ret
              exact RetB.of (ret_i64 (by rw [← HRR.out, HR.out])) BB.out
          · have HR : Hid (chkLn l = 1) := Lib.hid (chkLn_no (fun q => by have q := q.2 k (by rw [LX.out]; exact hkn); rw [HZ.out] at q; exact f0 q.1))
            have F0 := Lib.hid (decide_eq_false f0)
            clear f0
            have BB := Lib.hid OK.out.1
            have HO := Lib.hid OK.out.2
            clear OK
            have kn := Bk.new wr 36 #[.int .i64 wt, .int .i64 qu, .int .i64 li, .int .i64 tg, .int .i64 rn]
            have ba := (Below.refl wr.heap.size wr).alloc (Nat.le_refl _) (.cells #[.int .i64 wt, .int .i64 qu, .int .i64 li, .int .i64 tg, .int .i64 rn] 36)
            have hgb := BB.out.size
            replace BB := Lib.hid (below3 BB.out ba)
            obtain ⟨gx, hg⟩ : ∃ g, wr.heap.size = g := ⟨_, rfl⟩
            obtain ⟨V1, hW⟩ : ∃ W, wr.alloc (.cells #[.int .i64 wt, .int .i64 qu, .int .i64 li, .int .i64 tg, .int .i64 rn] 36) = W := ⟨_, rfl⟩
            have Kx := Lib.hid kn
            rw [hW] at BB Kx
            rw [hg] at Kx hgb
            have HGx := Lib.hid hg
            have HWx := Lib.hid hW
            have HBx := Lib.hid hgb
            clear hW hg kn ba hgb
            go_upto_region 6 with fail
            rw [HWx.out]
            try rw [HGx.out]
            clear HWx HGx
            clear c0 c1 c2 c3 c4 hbL
            obtain ⟨qx_0, qx_1, qx_2, qx_3, qx_4⟩ := Kx.out.c5
            have lx := Kx.out.lt
            go_wp2_with fail
            refine (rin_any wt 1 16 _).mono ?_
            rw [F0.out]
            rintro e U2 ⟨rfl, bU2⟩
            clear qx_0 qx_1 qx_2 qx_3 qx_4 lx
            replace BB := Lib.hid (below3 BB.out bU2)
            replace Kx := Lib.hid (Kx.out.below bU2 Kx.out.lt)
            clear bU2
            obtain ⟨qx_0, qx_1, qx_2, qx_3, qx_4⟩ := Kx.out.c5
            have lx := Kx.out.lt
            go_wp2
            go_ret
            exact RetB.of (ret_i64 (by rw [← HRR.out, HR.out])) BB.out
        · obtain rfl : n = k := by omega
          have HR : Hid (chkLn l = 0) := Lib.hid (chkLn_yes ⟨HN.out, fun j hj => OK.out.2 j (by rw [← LX.out]; exact hj)⟩)
          go_wp2
          go_ret
          exact RetB.of (ret_i64 (by rw [← HRR.out, HR.out])) OK.out.1

theorem drewN_tn (w : World) (a b : Nat) : ∃ k, (w.drewN a).drewN b = w.drewN k := ⟨a + b, by rw [World.drewN_drewN]⟩

set_option maxHeartbeats 4000000 in
theorem rsame_tn (A A' : Option Addr) (n c n' c' : Nat) (xs ys : List Tn) (w : World) (hx : Tns w A n c xs) (hy : Tns w A' n' c' ys) :
    Calls Try.prog 21 #[.slice A n c, .slice A' n' c'] w (RetB (.bool (sameTn xs ys)) w) := by
  have HX := Lib.hid hx
  have HY := Lib.hid hy
  have hn0 := hx.2.1
  have LX := Lib.hid hx.1
  have LY := Lib.hid hy.1
  clear hx hy
  by_cases hn : n = n'
  · subst hn
    have hn' : ((n : Int) != (n : Int)) = false := by simp
    go_enter Try.func21, Try.ntmps21
    go_wp2_with fail
    go_loopw [13] (fun t wr => ∃ k : Nat, k ≤ n ∧ t = .int .i64 k ∧ (∃ d, wr = w.drewN d) ∧ Hid (∀ j, j < k → tth xs j = tth ys j)) (fun t _ => n - (intOf t).toNat)
    case atStart => exact ⟨0, Nat.zero_le _, rfl, ⟨0, rfl⟩, fun j hj => by omega⟩
    case round =>
      obtain ⟨k, hk, rfl, ⟨d, rfl⟩, hall⟩ := hrel
      by_cases hlt : k < n
      · obtain ⟨bL, oL, rfl, hbL, c0, c1, c2, c3, c4⟩ := HX.out.at_ hlt
        obtain ⟨bR, oR, rfl, hbR, d0, d1, d2, d3, d4⟩ := HY.out.at_ hlt
        obtain ⟨⟨a1, b1, i1, e1, g1⟩, hz⟩ : ∃ x, tth xs k = x := ⟨_, rfl⟩
        obtain ⟨⟨a2, b2, i2, e2, g2⟩, hy⟩ : ∃ x, tth ys k = x := ⟨_, rfl⟩
        rw [hz] at c0 c1 c2 c3 c4
        rw [hy] at d0 d1 d2 d3 d4
        dsimp only at c0 c1 c2 c3 c4 d0 d1 d2 d3 d4
        have hN := neq_tn a1 b1 i1 e1 g1 a2 b2 i2 e2 g2
        have hG := guard_tn .neq
        by_cases he : (⟨a1, b1, i1, e1, g1⟩ : Tn) = ⟨a2, b2, i2, e2, g2⟩
        · have hall2 : Hid (∀ j, j < k + 1 → tth xs j = tth ys j) := Lib.hid fun j hj => by
            by_cases e : j = k
            · subst e; rw [hz, hy, he]
            · exact hall.out j (by omega)
          injection he with e1 e2 e3 e4 e5
          subst e1 e2 e3 e4 e5
          simp only [decide_true, Bool.not_true] at hN
          clear hz hy
          go_wp2_with fail
          go_quiet (fail)
          go_wp2_with fail
          go_roundw
          case rel => exact ⟨k + 1, by omega, by go_num, ⟨_, rfl⟩, hall2⟩
          case measure => simp [intOf]; omega
        · rw [sameTn_at (a := xs) (b := ys) k (by rw [hz, hy]; exact he)]
          simp only [decide_eq_false he, Bool.not_false] at hN
          clear he hz hy
          go_wp2_with fail
          go_quiet (fail)
          go_wp2_with fail
          go_ret
          obtain ⟨q, hq⟩ := drewN_tn w d nq
          exact ⟨rfl, by rw [hq]; exact below_drewN (Below.refl _ _) q⟩
      · obtain rfl : n = k := by omega
        have HF := Lib.hid (sameTn_all LX.out LY.out hall.out)
        go_wp2_with fail
        go_ret
        exact ⟨ret_bool HF.out.symm, below_drewN (Below.refl _ _) d⟩
  · rw [sameTn_len (by rw [LX.out, LY.out]; exact hn)]
    have hne : ((n : Int) != (n' : Int)) = true := by simp; omega
    go_enter Try.func21, Try.ntmps21
    go_wp2_with fail
    go_ret
    exact ⟨rfl, Below.refl _ _⟩

set_option maxHeartbeats 4000000 in
theorem equal_tn (A A' : Option Addr) (n c n' c' : Nat) (xs ys : List Tn) (w : World) (hx : Tns w A n c xs) (hy : Tns w A' n' c' ys) :
    Calls Try.prog 37 #[.slice A n c, .slice A' n' c'] w (RetB (.bool (sameTn xs ys)) w) := by
  have HX := Lib.hid hx
  have HY := Lib.hid hy
  have hn0 := hx.2.1
  have LX := Lib.hid hx.1
  have LY := Lib.hid hy.1
  clear hx hy
  by_cases hn : n = n'
  · subst hn
    have hn' : ((n : Int) != (n : Int)) = false := by simp
    go_enter Try.func37, Try.ntmps37
    go_wp2_with fail
    go_loopw [13] (fun t wr => ∃ k : Nat, k ≤ n ∧ t = .int .i64 k ∧ (∃ d, wr = w.drewN d) ∧ Hid (∀ j, j < k → tth xs j = tth ys j)) (fun t _ => n - (intOf t).toNat)
    case atStart => exact ⟨0, Nat.zero_le _, rfl, ⟨0, rfl⟩, fun j hj => by omega⟩
    case round =>
      obtain ⟨k, hk, rfl, ⟨d, rfl⟩, hall⟩ := hrel
      by_cases hlt : k < n
      · obtain ⟨bL, oL, rfl, hbL, c0, c1, c2, c3, c4⟩ := HX.out.at_ hlt
        obtain ⟨bR, oR, rfl, hbR, d0, d1, d2, d3, d4⟩ := HY.out.at_ hlt
        obtain ⟨⟨a1, b1, i1, e1, g1⟩, hz⟩ : ∃ x, tth xs k = x := ⟨_, rfl⟩
        obtain ⟨⟨a2, b2, i2, e2, g2⟩, hy⟩ : ∃ x, tth ys k = x := ⟨_, rfl⟩
        rw [hz] at c0 c1 c2 c3 c4
        rw [hy] at d0 d1 d2 d3 d4
        dsimp only at c0 c1 c2 c3 c4 d0 d1 d2 d3 d4
        have hN := neq_tn a1 b1 i1 e1 g1 a2 b2 i2 e2 g2
        have hG := guard_tn .neq
        by_cases he : (⟨a1, b1, i1, e1, g1⟩ : Tn) = ⟨a2, b2, i2, e2, g2⟩
        · have hall2 : Hid (∀ j, j < k + 1 → tth xs j = tth ys j) := Lib.hid fun j hj => by
            by_cases e : j = k
            · subst e; rw [hz, hy, he]
            · exact hall.out j (by omega)
          injection he with e1 e2 e3 e4 e5
          subst e1 e2 e3 e4 e5
          simp only [decide_true, Bool.not_true] at hN
          clear hz hy
          go_wp2_with fail
          go_quiet (fail)
          go_wp2_with fail
          go_roundw
          case rel => exact ⟨k + 1, by omega, by go_num, ⟨_, rfl⟩, hall2⟩
          case measure => simp [intOf]; omega
        · rw [sameTn_at (a := xs) (b := ys) k (by rw [hz, hy]; exact he)]
          simp only [decide_eq_false he, Bool.not_false] at hN
          clear he hz hy
          go_wp2_with fail
          go_quiet (fail)
          go_wp2_with fail
          go_ret
          obtain ⟨q, hq⟩ := drewN_tn w d nq
          exact ⟨rfl, by rw [hq]; exact below_drewN (Below.refl _ _) q⟩
      · obtain rfl : n = k := by omega
        have HF := Lib.hid (sameTn_all LX.out LY.out hall.out)
        go_wp2_with fail
        go_ret
        exact ⟨ret_bool HF.out.symm, below_drewN (Below.refl _ _) d⟩
  · rw [sameTn_len (by rw [LX.out, LY.out]; exact hn)]
    have hne : ((n : Int) != (n' : Int)) = true := by simp; omega
    go_enter Try.func37, Try.ntmps37
    go_wp2_with fail
    go_ret
    exact ⟨rfl, Below.refl _ _⟩

theorem psame_tn (A A' : Option Addr) (n c n' c' : Nat) (xs ys : List Tn) (w : World) (hx : Tns w A n c xs) (hy : Tns w A' n' c' ys) :
    Calls Try.prog 22 #[.slice A n c, .slice A' n' c'] w (RetB (.bool (sameTn xs ys)) w) := by
  have HS := Lib.hid (equal_tn A A' n c n' c' xs ys w hx hy)
  clear hx hy
  go_enter Try.func22, Try.ntmps22
  go_wp2_with fail
  refine HS.out.mono ?_
  rintro e w1 ⟨rfl, b1⟩
  have B1 := Lib.hid b1
  clear b1
  go_wp2_with fail
  go_ret
  exact ⟨rfl, B1.out⟩

set_option maxHeartbeats 1000000 in
theorem rfind_tn (A : Option Addr) (n c : Nat) (l : List Tn) (i : Int) (w : World) (hx : Tns w A n c l) :
    Calls Try.prog 26 #[.slice A n c, .int .i64 i] w (RetB (.int .i64 (findLn l i)) w) := by
  have HX := Lib.hid hx
  have LX := Lib.hid hx.1
  have hnc := hx.2.1
  clear hx
  by_cases hok : okLn l
  · have HC := Lib.hid (chkLn_yes hok)
    by_cases h0 : i < 0
    · rw [findLn_5 hok (by omega)]
      have t0 : decide (i < 0) = true := decide_eq_true h0
      clear h0 hok
      go_enter Try.func26, Try.ntmps26
      go_wp2_with fail
      refine (rchk_tn A n c l _ HX.out).mono ?_
      rw [HC.out]
      rintro e w1 ⟨rfl, b1⟩
      have B1 := Lib.hid b1
      clear b1
      go_wp2
      go_ret
      exact ⟨rfl, B1.out⟩
    · by_cases h1 : (n : Int) ≤ i
      · rw [findLn_5 hok (by rw [LX.out]; omega)]
        have t0 : decide (i < 0) = false := decide_eq_false h0
        have t1 : decide ((n : Int) ≤ i) = true := decide_eq_true h1
        clear h0 h1 hok
        go_enter Try.func26, Try.ntmps26
        go_wp2_with fail
        refine (rchk_tn A n c l _ HX.out).mono ?_
        rw [HC.out]
        rintro e w1 ⟨rfl, b1⟩
        have B1 := Lib.hid b1
        clear b1
        go_wp2
        go_ret
        exact ⟨rfl, B1.out⟩
      · rw [findLn_0 hok (by rw [LX.out]; omega)]
        have t0 : decide (i < 0) = false := decide_eq_false h0
        have t1 : decide ((n : Int) ≤ i) = false := decide_eq_false h1
        clear h0 h1 hok
        go_enter Try.func26, Try.ntmps26
        go_wp2_with fail
        refine (rchk_tn A n c l _ HX.out).mono ?_
        rw [HC.out]
        rintro e w1 ⟨rfl, b1⟩
        have B1 := Lib.hid b1
        clear b1
        go_wp2
        go_ret
        exact ⟨rfl, B1.out⟩
  · have HC := Lib.hid (chkLn_no hok)
    rw [findLn_1 hok]
    clear hok
    go_enter Try.func26, Try.ntmps26
    go_wp2_with fail
    refine (rchk_tn A n c l _ HX.out).mono ?_
    rw [HC.out]
    rintro e w1 ⟨rfl, b1⟩
    have B1 := Lib.hid b1
    clear b1
    go_wp2
    go_ret
    exact ⟨rfl, B1.out⟩

/-- What is told: new tenants; an error's number with them; three numbers. -/
def OneTn (p : List Tn) (w : World) (e : Ending) (w' : World) : Prop := ∃ A c, e = .returned (.slice A p.length c) ∧ OwnTn 36 w' w.heap.size A c p ∧ Below w.heap.size w w'
def ListTn (r : Int × List Tn) (w : World) (e : Ending) (w' : World) : Prop := ∃ A c, e = .returned (.tuple #[.slice A r.2.length c, .int .i64 r.1]) ∧ OwnTn 36 w' w.heap.size A c r.2 ∧ Below w.heap.size w w'
def AllTn (r : Int × Int × Int) (w : World) (e : Ending) (w' : World) : Prop := e = .returned (.tuple #[.int .i64 r.1, .int .i64 r.2.1, .int .i64 r.2.2]) ∧ Below w.heap.size w w'
theorem listTn_no (e : Int) {w w' : World} (h : Below w.heap.size w w') : ListTn (e, []) w (.returned (.tuple #[.slice none 0 0, .int .i64 e])) w' := ⟨none, 0, rfl, OwnTn.nil_ _ _ _, h⟩
theorem below_grownTn {w w' : World} {t : TypeId} (h : (w.alloc (.cells #[] t)).grownBy w' (Value.slice (some ⟨w.heap.size, 0, none⟩) 0 0).ownBlock) : Below w.heap.size w w' :=
  ((Below.refl w.heap.size w).alloc (Nat.le_refl _) _).grown h (by simp) (by intro k hk; simp [Value.ownBlock] at hk; omega)
theorem clone_tn (A : Option Addr) (n c : Nat) (l : List Tn) (w : World) (hx : Tns w A n c l) (hn : n ≤ 1000) :
    Calls Try.prog 44 #[.slice A n c] w (OneTn l w) := by
  have q : ∀ (w : World) (a : Option Addr) (n c n' c' : Nat), (binOp .eql 22 (.slice a n c) (.slice none n' c')).run Try.prog w = .ok (.bool a.isNone) w := fun w a n c n' c' => Lib.run_eql_slice_nil w _ _ a n c n' c' Try.underlying22
  have HX := Lib.hid hx
  cases A with
  | none =>
    have h0 : n = 0 := by
      rcases Nat.eq_zero_or_pos n with h | h
      · exact h
      · obtain ⟨b, o, e, _⟩ := hx.2.2.2 h
        cases e
    have HG : Hid (l = []) := Lib.hid (List.eq_nil_of_length_eq_zero (by rw [hx.1]; exact h0))
    clear hx
    subst h0
    go_enter Try.func44, Try.ntmps44
    go_wp2
    go_ret
    have := HG.out
    subst this
    exact ⟨none, 0, rfl, OwnTn.nil_ _ _ _, Below.refl _ _⟩
  | some a =>
    clear hx
    go_enter Try.func44, Try.ntmps44
    go_wp2_with (at_builtin; refine wpList_append_tns _ rfl _ _ 22 rfl 36 _ rfl Try.underlying22 infoTn w.heap.size (some ⟨w.heap.size, 0, none⟩) 0 [] 0 rfl rfl (OwnTn.made _ _) (some a) n c l rfl (HX.out.alloc _) (by simp; omega) (by simp) ?_; intro A' c' w' ho hg; rw [List.nil_append] at ho ⊢; have HO := Lib.hid ho; have HB := Lib.hid (below_grownTn hg); clear ho hg)
    go_ret
    exact ⟨A', c', rfl, HO.out, HB.out⟩

set_option maxHeartbeats 2000000 in
theorem with_tn (A : Option Addr) (n c : Nat) (l : List Tn) (k : Nat) (wt qu li tg rn : Int) (w : World) (hx : Tns w A n c l) (hk : k < n) (hn : n ≤ 1000) (fz : FitTn ⟨wt, qu, li, tg, rn⟩) :
    Calls Try.prog 27 #[.slice A n c, .int .i64 (k : Int), .agg #[.int .i64 wt, .int .i64 qu, .int .i64 li, .int .i64 tg, .int .i64 rn]] w (OneTn (l.set k ⟨wt, qu, li, tg, rn⟩) w) := by
  have LX := Lib.hid hx.1
  have FZ := Lib.hid fz
  have hnc := hx.2.1
  have k0 := Bk.new w 36 #[.int .i64 wt, .int .i64 qu, .int .i64 li, .int .i64 tg, .int .i64 rn]
  have b0 := (Below.refl w.heap.size w).alloc (Nat.le_refl _) (.cells #[.int .i64 wt, .int .i64 qu, .int .i64 li, .int .i64 tg, .int .i64 rn] 36)
  obtain ⟨gt, hgt⟩ : ∃ g, w.heap.size = g := ⟨_, rfl⟩
  obtain ⟨W, hW⟩ : ∃ W, w.alloc (.cells #[.int .i64 wt, .int .i64 qu, .int .i64 li, .int .i64 tg, .int .i64 rn] 36) = W := ⟨_, rfl⟩
  have HX := Lib.hid (hx.below b0)
  rw [hW] at k0 b0 HX
  rw [hgt] at k0
  have HW := Lib.hid hW
  have HGT := Lib.hid hgt
  have K0 := Lib.hid k0
  have B0 := Lib.hid b0
  obtain ⟨p, hp⟩ : ∃ p, l.set k ⟨wt, qu, li, tg, rn⟩ = p := ⟨_, rfl⟩
  rw [hp]
  have HP := Lib.hid hp
  clear hx fz k0 b0 hW hgt hp
  go_enter Try.func27, Try.ntmps27
  go_upto_region 1 with fail
  rw [HW.out]
  try rw [HGT.out]
  clear HW
  go_upto_region 2 with (at_builtin; refine wpList_append_tns _ rfl _ _ 22 rfl 36 _ rfl Try.underlying22 infoTn W.heap.size none 0 [] 0 rfl rfl (OwnTn.nil_ _ _ _) A n c l rfl HX.out (by simp; omega) (Nat.le_refl _) ?_; intro A1 c1 w1 ho hgr; rw [List.nil_append] at ho ⊢; have b1 : Below W.heap.size W w1 := (Below.refl _ _).grown hgr (Nat.le_refl _) (by intro k hk; simp [Value.ownBlock] at hk); have OC := Lib.hid ho; have BC := Lib.hid (below3 B0.out b1); have KC := Lib.hid (K0.out.below b1 K0.out.lt); have hbw : w.heap.size ≤ W.heap.size := B0.out.size; have hgw : gt < W.heap.size := K0.out.lt; clear ho hgr b1)
  obtain ⟨g, rfl, hg, hbg⟩ := OC.out.some_ (by rw [LX.out]; omega)
  obtain ⟨⟨c0, c1', c2, c3, c4⟩, f0, f1, f2, f3, f4⟩ := OC.out.at5 (show k < l.length by rw [LX.out]; exact hk)
  have O2 := Lib.hid (OC.out.put k (x := ⟨wt, qu, li, tg, rn⟩) FZ.out)
  have B2 := Lib.hid (below_put5 (g := g) BC.out (by have := B0.out.size; omega) k ⟨wt, qu, li, tg, rn⟩)
  have hcap := OC.out.cap
  have hll := LX.out
  obtain ⟨q0, q1, q2, q3, q4⟩ := KC.out.c5
  have lq := KC.out.lt
  have hne : gt ≠ g := by omega
  rw [LX.out] at hcap ⊢
  clear hll
  unfold put5 at O2 B2
  dsimp only at O2 B2
  go_wp2_with fail
  go_ret
  have hpl : p.length = n := by rw [← HP.out, List.length_set]; exact LX.out
  refine ⟨some ⟨g, 0, none⟩, c1, by rw [hpl]; rfl, ?_, B2.out⟩
  rw [← HP.out]
  exact O2.out.base (by rw [HGT.out]; omega)

end Go.Proofs.Ytnmllekbajeenaa

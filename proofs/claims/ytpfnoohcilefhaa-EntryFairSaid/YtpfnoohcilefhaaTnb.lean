/-
  Layer 14: the document's Check and Find; both Sames; both Alls; Clone and With.
-/
import Derived.Test.YtpfnoohcilefhaaTna
namespace Go.Proofs.Ytpfnoohcilefhaa
open Go.RowKit

set_option maxHeartbeats 4000000 in
theorem rchk_tn (A : Option Addr) (n c : Nat) (l : List Tn) (w : World) (hx : Tns w A n c l) :
    Calls Try.prog 53 #[.slice A n c] w (RetB (.int .i64 (chkLn l)) w) := by
  have HX := Lib.hid hx
  have LX := Lib.hid hx.1
  have hnc := hx.2.1
  clear hx
  obtain ⟨r, hr⟩ : ∃ r, chkLn l = r := ⟨_, rfl⟩
  rw [hr]
  have HRR := Lib.hid hr
  clear hr
  by_cases g0 : (n : Int) < 1
  · have HR : Hid (chkLn l = 1) := Lib.hid (chkLn_no (fun q => by have := q.1; rw [LX.out] at this; omega))
    replace g0 : decide ((n : Int) < 1) = true := decide_eq_true g0
    go_enter Try.func53, Try.ntmps53
    go_wp2
    go_ret
    exact RetB.of (ret_i64 (by rw [← HRR.out, HR.out])) (Below.refl _ _)
  · by_cases g1 : 16 < (n : Int)
    · have HR : Hid (chkLn l = 1) := Lib.hid (chkLn_no (fun q => by have := q.1; rw [LX.out] at this; omega))
      replace g0 : decide ((n : Int) < 1) = false := decide_eq_false g0
      replace g1 : decide (16 < (n : Int)) = true := decide_eq_true g1
      go_enter Try.func53, Try.ntmps53
      go_wp2
      go_ret
      exact RetB.of (ret_i64 (by rw [← HRR.out, HR.out])) (Below.refl _ _)
    · have HN : Hid (1 ≤ l.length ∧ l.length ≤ 16) := Lib.hid (by rw [LX.out]; omega)
      replace g0 : decide ((n : Int) < 1) = false := decide_eq_false g0
      replace g1 : decide (16 < (n : Int)) = false := decide_eq_false g1
      go_enter Try.func53, Try.ntmps53
      go_wp2
      go_loopw [15] (fun t wr => ∃ k : Nat, k ≤ n ∧ t = .int .i64 k ∧ Hid (Below w.heap.size w wr ∧ ∀ j, j < k → okTn (tth l j))) (fun t _ => n - (intOf t).toNat)
      case atStart => exact ⟨0, Nat.zero_le _, rfl, Lib.hid ⟨Below.refl _ _, fun i hi => by omega⟩⟩
      case round =>
        rename World => wr
        obtain ⟨k, hk, rfl, OK⟩ := hrel
        by_cases hkn : k < n
        · obtain ⟨bL, oL, rfl, hbL, c0, c1, c2, c3, c4⟩ := (HX.out.below OK.out.1).at_ hkn
          obtain ⟨⟨wt, qu, li, tg, rn⟩, hz⟩ : ∃ x, tth l k = x := ⟨_, rfl⟩
          rw [hz] at c0 c1 c2 c3 c4
          dsimp only at c0 c1 c2 c3 c4
          have HZ := Lib.hid hz
          clear hz
          by_cases f0 : 1 ≤ wt ∧ wt ≤ 16
          · by_cases f1 : 0 ≤ qu ∧ qu ≤ 256
            · by_cases f2 : li < 0
              · have HR : Hid (chkLn l = 1) := Lib.hid (chkLn_no (fun q => by have q := q.2 k (by rw [LX.out]; exact hkn); rw [HZ.out] at q; have q := q.2.2.1; dsimp only at q; omega))
                have F0 := Lib.hid (decide_eq_true f0)
                clear f0
                have F1 := Lib.hid (decide_eq_true f1)
                clear f1
                replace f2 : decide (li < 0) = true := decide_eq_true f2
                have BB := Lib.hid OK.out.1
                have HO := Lib.hid OK.out.2
                clear OK
                have kn := Bk.new wr 76 #[.int .i64 wt, .int .i64 qu, .int .i64 li, .int .i64 tg, .int .i64 rn]
                have ba := (Below.refl wr.heap.size wr).alloc (Nat.le_refl _) (.cells #[.int .i64 wt, .int .i64 qu, .int .i64 li, .int .i64 tg, .int .i64 rn] 76)
                have hgb := BB.out.size
                replace BB := Lib.hid (below3 BB.out ba)
                obtain ⟨gx, hg⟩ : ∃ g, wr.heap.size = g := ⟨_, rfl⟩
                obtain ⟨V1, hW⟩ : ∃ W, wr.alloc (.cells #[.int .i64 wt, .int .i64 qu, .int .i64 li, .int .i64 tg, .int .i64 rn] 76) = W := ⟨_, rfl⟩
                have Kx := Lib.hid kn
                rw [hW] at BB Kx
                rw [hg] at Kx hgb
                have HGx := Lib.hid hg
                have HWx := Lib.hid hW
                have HBx := Lib.hid hgb
                clear hW hg kn ba hgb
                go_upto_region 6 with fail
                rw [HWx.out]
                try rw [HGx.out]
                clear HWx HGx
                clear c0 c1 c2 c3 c4 hbL
                obtain ⟨qx_0, qx_1, qx_2, qx_3, qx_4⟩ := Kx.out.c5
                have lx := Kx.out.lt
                go_wp2_with fail
                refine (rinTn_any wt 1 16 _).mono ?_
                rw [F0.out]
                rintro e U2 ⟨rfl, bU2⟩
                clear qx_0 qx_1 qx_2 qx_3 qx_4 lx
                replace BB := Lib.hid (below3 BB.out bU2)
                replace Kx := Lib.hid (Kx.out.below bU2 Kx.out.lt)
                clear bU2
                obtain ⟨qx_0, qx_1, qx_2, qx_3, qx_4⟩ := Kx.out.c5
                have lx := Kx.out.lt
                go_wp2_with fail
                refine (rinTn_any qu 0 256 _).mono ?_
                rw [F1.out]
                rintro e U3 ⟨rfl, bU3⟩
                clear qx_0 qx_1 qx_2 qx_3 qx_4 lx
                replace BB := Lib.hid (below3 BB.out bU3)
                replace Kx := Lib.hid (Kx.out.below bU3 Kx.out.lt)
                clear bU3
                obtain ⟨qx_0, qx_1, qx_2, qx_3, qx_4⟩ := Kx.out.c5
                have lx := Kx.out.lt
                go_wp2
                go_ret
                exact RetB.of (ret_i64 (by rw [← HRR.out, HR.out])) BB.out
              · by_cases f3 : qu < li
                · have HR : Hid (chkLn l = 1) := Lib.hid (chkLn_no (fun q => by have q := q.2 k (by rw [LX.out]; exact hkn); rw [HZ.out] at q; have q := q.2.2.1; dsimp only at q; omega))
                  have F0 := Lib.hid (decide_eq_true f0)
                  clear f0
                  have F1 := Lib.hid (decide_eq_true f1)
                  clear f1
                  replace f2 : decide (li < 0) = false := decide_eq_false f2
                  replace f3 : decide (qu < li) = true := decide_eq_true f3
                  have BB := Lib.hid OK.out.1
                  have HO := Lib.hid OK.out.2
                  clear OK
                  have kn := Bk.new wr 76 #[.int .i64 wt, .int .i64 qu, .int .i64 li, .int .i64 tg, .int .i64 rn]
                  have ba := (Below.refl wr.heap.size wr).alloc (Nat.le_refl _) (.cells #[.int .i64 wt, .int .i64 qu, .int .i64 li, .int .i64 tg, .int .i64 rn] 76)
                  have hgb := BB.out.size
                  replace BB := Lib.hid (below3 BB.out ba)
                  obtain ⟨gx, hg⟩ : ∃ g, wr.heap.size = g := ⟨_, rfl⟩
                  obtain ⟨V1, hW⟩ : ∃ W, wr.alloc (.cells #[.int .i64 wt, .int .i64 qu, .int .i64 li, .int .i64 tg, .int .i64 rn] 76) = W := ⟨_, rfl⟩
                  have Kx := Lib.hid kn
                  rw [hW] at BB Kx
                  rw [hg] at Kx hgb
                  have HGx := Lib.hid hg
                  have HWx := Lib.hid hW
                  have HBx := Lib.hid hgb
                  clear hW hg kn ba hgb
                  go_upto_region 6 with fail
                  rw [HWx.out]
                  try rw [HGx.out]
                  clear HWx HGx
                  clear c0 c1 c2 c3 c4 hbL
                  obtain ⟨qx_0, qx_1, qx_2, qx_3, qx_4⟩ := Kx.out.c5
                  have lx := Kx.out.lt
                  go_wp2_with fail
                  refine (rinTn_any wt 1 16 _).mono ?_
                  rw [F0.out]
                  rintro e U2 ⟨rfl, bU2⟩
                  clear qx_0 qx_1 qx_2 qx_3 qx_4 lx
                  replace BB := Lib.hid (below3 BB.out bU2)
                  replace Kx := Lib.hid (Kx.out.below bU2 Kx.out.lt)
                  clear bU2
                  obtain ⟨qx_0, qx_1, qx_2, qx_3, qx_4⟩ := Kx.out.c5
                  have lx := Kx.out.lt
                  go_wp2_with fail
                  refine (rinTn_any qu 0 256 _).mono ?_
                  rw [F1.out]
                  rintro e U3 ⟨rfl, bU3⟩
                  clear qx_0 qx_1 qx_2 qx_3 qx_4 lx
                  replace BB := Lib.hid (below3 BB.out bU3)
                  replace Kx := Lib.hid (Kx.out.below bU3 Kx.out.lt)
                  clear bU3
                  obtain ⟨qx_0, qx_1, qx_2, qx_3, qx_4⟩ := Kx.out.c5
                  have lx := Kx.out.lt
                  go_wp2
                  go_ret
                  exact RetB.of (ret_i64 (by rw [← HRR.out, HR.out])) BB.out
                · by_cases f4 : 0 ≤ tg ∧ tg ≤ 1152921504606846976
                  · by_cases f5 : 0 ≤ rn ∧ rn ≤ 1099511627776
                    · have HT := Lib.hid (show okTn (⟨wt, qu, li, tg, rn⟩ : Tn) from ⟨f0, f1, ⟨by show 0 ≤ li; omega, by show li ≤ qu; omega⟩, f4, f5⟩)
                      have F0 := Lib.hid (decide_eq_true f0)
                      clear f0
                      have F1 := Lib.hid (decide_eq_true f1)
                      clear f1
                      replace f2 : decide (li < 0) = false := decide_eq_false f2
                      replace f3 : decide (qu < li) = false := decide_eq_false f3
                      have F4 := Lib.hid (decide_eq_true f4)
                      clear f4
                      have F5 := Lib.hid (decide_eq_true f5)
                      clear f5
                      have BB := Lib.hid OK.out.1
                      have HO := Lib.hid OK.out.2
                      clear OK
                      have kn := Bk.new wr 76 #[.int .i64 wt, .int .i64 qu, .int .i64 li, .int .i64 tg, .int .i64 rn]
                      have ba := (Below.refl wr.heap.size wr).alloc (Nat.le_refl _) (.cells #[.int .i64 wt, .int .i64 qu, .int .i64 li, .int .i64 tg, .int .i64 rn] 76)
                      have hgb := BB.out.size
                      replace BB := Lib.hid (below3 BB.out ba)
                      obtain ⟨gx, hg⟩ : ∃ g, wr.heap.size = g := ⟨_, rfl⟩
                      obtain ⟨V1, hW⟩ : ∃ W, wr.alloc (.cells #[.int .i64 wt, .int .i64 qu, .int .i64 li, .int .i64 tg, .int .i64 rn] 76) = W := ⟨_, rfl⟩
                      have Kx := Lib.hid kn
                      rw [hW] at BB Kx
                      rw [hg] at Kx hgb
                      have HGx := Lib.hid hg
                      have HWx := Lib.hid hW
                      have HBx := Lib.hid hgb
                      clear hW hg kn ba hgb
                      go_upto_region 6 with fail
                      rw [HWx.out]
                      try rw [HGx.out]
                      clear HWx HGx
                      clear c0 c1 c2 c3 c4 hbL
                      obtain ⟨qx_0, qx_1, qx_2, qx_3, qx_4⟩ := Kx.out.c5
                      have lx := Kx.out.lt
                      go_wp2_with fail
                      refine (rinTn_any wt 1 16 _).mono ?_
                      rw [F0.out]
                      rintro e U2 ⟨rfl, bU2⟩
                      clear qx_0 qx_1 qx_2 qx_3 qx_4 lx
                      replace BB := Lib.hid (below3 BB.out bU2)
                      replace Kx := Lib.hid (Kx.out.below bU2 Kx.out.lt)
                      clear bU2
                      obtain ⟨qx_0, qx_1, qx_2, qx_3, qx_4⟩ := Kx.out.c5
                      have lx := Kx.out.lt
                      go_wp2_with fail
                      refine (rinTn_any qu 0 256 _).mono ?_
                      rw [F1.out]
                      rintro e U3 ⟨rfl, bU3⟩
                      clear qx_0 qx_1 qx_2 qx_3 qx_4 lx
                      replace BB := Lib.hid (below3 BB.out bU3)
                      replace Kx := Lib.hid (Kx.out.below bU3 Kx.out.lt)
                      clear bU3
                      obtain ⟨qx_0, qx_1, qx_2, qx_3, qx_4⟩ := Kx.out.c5
                      have lx := Kx.out.lt
                      go_wp2_with fail
                      refine (rinTn_any tg 0 1152921504606846976 _).mono ?_
                      rw [F4.out]
                      rintro e U4 ⟨rfl, bU4⟩
                      clear qx_0 qx_1 qx_2 qx_3 qx_4 lx
                      replace BB := Lib.hid (below3 BB.out bU4)
                      replace Kx := Lib.hid (Kx.out.below bU4 Kx.out.lt)
                      clear bU4
                      obtain ⟨qx_0, qx_1, qx_2, qx_3, qx_4⟩ := Kx.out.c5
                      have lx := Kx.out.lt
                      go_wp2_with fail
                      refine (rinTn_any rn 0 1099511627776 _).mono ?_
                      rw [F5.out]
                      rintro e U5 ⟨rfl, bU5⟩
                      clear qx_0 qx_1 qx_2 qx_3 qx_4 lx
                      replace BB := Lib.hid (below3 BB.out bU5)
                      replace Kx := Lib.hid (Kx.out.below bU5 Kx.out.lt)
                      clear bU5
                      obtain ⟨qx_0, qx_1, qx_2, qx_3, qx_4⟩ := Kx.out.c5
                      have lx := Kx.out.lt
                      go_wp2
                      go_roundw
                      case rel => exact ⟨k + 1, by omega, by go_num, Lib.hid ⟨BB.out, fun j hj => by
                        rcases Nat.lt_or_ge j k with h | h
                        · exact HO.out j h
                        · obtain rfl : j = k := by omega
                          rw [HZ.out]; exact HT.out⟩⟩
                      case measure => simp [intOf]; omega
                    · have HR : Hid (chkLn l = 1) := Lib.hid (chkLn_no (fun q => by have q := q.2 k (by rw [LX.out]; exact hkn); rw [HZ.out] at q; exact f5 q.2.2.2.2))
                      have F0 := Lib.hid (decide_eq_true f0)
                      clear f0
                      have F1 := Lib.hid (decide_eq_true f1)
                      clear f1
                      replace f2 : decide (li < 0) = false := decide_eq_false f2
                      replace f3 : decide (qu < li) = false := decide_eq_false f3
                      have F4 := Lib.hid (decide_eq_true f4)
                      clear f4
                      have F5 := Lib.hid (decide_eq_false f5)
                      clear f5
                      have BB := Lib.hid OK.out.1
                      have HO := Lib.hid OK.out.2
                      clear OK
                      have kn := Bk.new wr 76 #[.int .i64 wt, .int .i64 qu, .int .i64 li, .int .i64 tg, .int .i64 rn]
                      have ba := (Below.refl wr.heap.size wr).alloc (Nat.le_refl _) (.cells #[.int .i64 wt, .int .i64 qu, .int .i64 li, .int .i64 tg, .int .i64 rn] 76)
                      have hgb := BB.out.size
                      replace BB := Lib.hid (below3 BB.out ba)
                      obtain ⟨gx, hg⟩ : ∃ g, wr.heap.size = g := ⟨_, rfl⟩
                      obtain ⟨V1, hW⟩ : ∃ W, wr.alloc (.cells #[.int .i64 wt, .int .i64 qu, .int .i64 li, .int .i64 tg, .int .i64 rn] 76) = W := ⟨_, rfl⟩
                      have Kx := Lib.hid kn
                      rw [hW] at BB Kx
                      rw [hg] at Kx hgb
                      have HGx := Lib.hid hg
                      have HWx := Lib.hid hW
                      have HBx := Lib.hid hgb
                      clear hW hg kn ba hgb
                      go_upto_region 6 with fail
                      rw [HWx.out]
                      try rw [HGx.out]
                      clear HWx HGx
                      clear c0 c1 c2 c3 c4 hbL
                      obtain ⟨qx_0, qx_1, qx_2, qx_3, qx_4⟩ := Kx.out.c5
                      have lx := Kx.out.lt
                      go_wp2_with fail
                      refine (rinTn_any wt 1 16 _).mono ?_
                      rw [F0.out]
                      rintro e U2 ⟨rfl, bU2⟩
                      clear qx_0 qx_1 qx_2 qx_3 qx_4 lx
                      replace BB := Lib.hid (below3 BB.out bU2)
                      replace Kx := Lib.hid (Kx.out.below bU2 Kx.out.lt)
                      clear bU2
                      obtain ⟨qx_0, qx_1, qx_2, qx_3, qx_4⟩ := Kx.out.c5
                      have lx := Kx.out.lt
                      go_wp2_with fail
                      refine (rinTn_any qu 0 256 _).mono ?_
                      rw [F1.out]
                      rintro e U3 ⟨rfl, bU3⟩
                      clear qx_0 qx_1 qx_2 qx_3 qx_4 lx
                      replace BB := Lib.hid (below3 BB.out bU3)
                      replace Kx := Lib.hid (Kx.out.below bU3 Kx.out.lt)
                      clear bU3
                      obtain ⟨qx_0, qx_1, qx_2, qx_3, qx_4⟩ := Kx.out.c5
                      have lx := Kx.out.lt
                      go_wp2_with fail
                      refine (rinTn_any tg 0 1152921504606846976 _).mono ?_
                      rw [F4.out]
                      rintro e U4 ⟨rfl, bU4⟩
                      clear qx_0 qx_1 qx_2 qx_3 qx_4 lx
                      replace BB := Lib.hid (below3 BB.out bU4)
                      replace Kx := Lib.hid (Kx.out.below bU4 Kx.out.lt)
                      clear bU4
                      obtain ⟨qx_0, qx_1, qx_2, qx_3, qx_4⟩ := Kx.out.c5
                      have lx := Kx.out.lt
                      go_wp2_with fail
                      refine (rinTn_any rn 0 1099511627776 _).mono ?_
                      rw [F5.out]
                      rintro e U5 ⟨rfl, bU5⟩
                      clear qx_0 qx_1 qx_2 qx_3 qx_4 lx
                      replace BB := Lib.hid (below3 BB.out bU5)
                      replace Kx := Lib.hid (Kx.out.below bU5 Kx.out.lt)
                      clear bU5
                      obtain ⟨qx_0, qx_1, qx_2, qx_3, qx_4⟩ := Kx.out.c5
                      have lx := Kx.out.lt
                      go_wp2
                      go_ret
                      exact RetB.of (ret_i64 (by rw [← HRR.out, HR.out])) BB.out
                  · have HR : Hid (chkLn l = 1) := Lib.hid (chkLn_no (fun q => by have q := q.2 k (by rw [LX.out]; exact hkn); rw [HZ.out] at q; exact f4 q.2.2.2.1))
                    have F0 := Lib.hid (decide_eq_true f0)
                    clear f0
                    have F1 := Lib.hid (decide_eq_true f1)
                    clear f1
                    replace f2 : decide (li < 0) = false := decide_eq_false f2
                    replace f3 : decide (qu < li) = false := decide_eq_false f3
                    have F4 := Lib.hid (decide_eq_false f4)
                    clear f4
                    have BB := Lib.hid OK.out.1
                    have HO := Lib.hid OK.out.2
                    clear OK
                    have kn := Bk.new wr 76 #[.int .i64 wt, .int .i64 qu, .int .i64 li, .int .i64 tg, .int .i64 rn]
                    have ba := (Below.refl wr.heap.size wr).alloc (Nat.le_refl _) (.cells #[.int .i64 wt, .int .i64 qu, .int .i64 li, .int .i64 tg, .int .i64 rn] 76)
                    have hgb := BB.out.size
                    replace BB := Lib.hid (below3 BB.out ba)
                    obtain ⟨gx, hg⟩ : ∃ g, wr.heap.size = g := ⟨_, rfl⟩
                    obtain ⟨V1, hW⟩ : ∃ W, wr.alloc (.cells #[.int .i64 wt, .int .i64 qu, .int .i64 li, .int .i64 tg, .int .i64 rn] 76) = W := ⟨_, rfl⟩
                    have Kx := Lib.hid kn
                    rw [hW] at BB Kx
                    rw [hg] at Kx hgb
                    have HGx := Lib.hid hg
                    have HWx := Lib.hid hW
                    have HBx := Lib.hid hgb
                    clear hW hg kn ba hgb
                    go_upto_region 6 with fail
                    rw [HWx.out]
                    try rw [HGx.out]
                    clear HWx HGx
                    clear c0 c1 c2 c3 c4 hbL
                    obtain ⟨qx_0, qx_1, qx_2, qx_3, qx_4⟩ := Kx.out.c5
                    have lx := Kx.out.lt
                    go_wp2_with fail
                    refine (rinTn_any wt 1 16 _).mono ?_
                    rw [F0.out]
                    rintro e U2 ⟨rfl, bU2⟩
                    clear qx_0 qx_1 qx_2 qx_3 qx_4 lx
                    replace BB := Lib.hid (below3 BB.out bU2)
                    replace Kx := Lib.hid (Kx.out.below bU2 Kx.out.lt)
                    clear bU2
                    obtain ⟨qx_0, qx_1, qx_2, qx_3, qx_4⟩ := Kx.out.c5
                    have lx := Kx.out.lt
                    go_wp2_with fail
                    refine (rinTn_any qu 0 256 _).mono ?_
                    rw [F1.out]
                    rintro e U3 ⟨rfl, bU3⟩
                    clear qx_0 qx_1 qx_2 qx_3 qx_4 lx
                    replace BB := Lib.hid (below3 BB.out bU3)
                    replace Kx := Lib.hid (Kx.out.below bU3 Kx.out.lt)
                    clear bU3
                    obtain ⟨qx_0, qx_1, qx_2, qx_3, qx_4⟩ := Kx.out.c5
                    have lx := Kx.out.lt
                    go_wp2_with fail
                    refine (rinTn_any tg 0 1152921504606846976 _).mono ?_
                    rw [F4.out]
                    rintro e U4 ⟨rfl, bU4⟩
                    clear qx_0 qx_1 qx_2 qx_3 qx_4 lx
                    replace BB := Lib.hid (below3 BB.out bU4)
                    replace Kx := Lib.hid (Kx.out.below bU4 Kx.out.lt)
                    clear bU4
                    obtain ⟨qx_0, qx_1, qx_2, qx_3, qx_4⟩ := Kx.out.c5
                    have lx := Kx.out.lt
                    go_wp2
                    go_ret
                    exact RetB.of (ret_i64 (by rw [← HRR.out, HR.out])) BB.out
            · have HR : Hid (chkLn l = 1) := Lib.hid (chkLn_no (fun q => by have q := q.2 k (by rw [LX.out]; exact hkn); rw [HZ.out] at q; exact f1 q.2.1))
              have F0 := Lib.hid (decide_eq_true f0)
              clear f0
              have F1 := Lib.hid (decide_eq_false f1)
              clear f1
              have BB := Lib.hid OK.out.1
              have HO := Lib.hid OK.out.2
              clear OK
              have kn := Bk.new wr 76 #[.int .i64 wt, .int .i64 qu, .int .i64 li, .int .i64 tg, .int .i64 rn]
              have ba := (Below.refl wr.heap.size wr).alloc (Nat.le_refl _) (.cells #[.int .i64 wt, .int .i64 qu, .int .i64 li, .int .i64 tg, .int .i64 rn] 76)
              have hgb := BB.out.size
              replace BB := Lib.hid (below3 BB.out ba)
              obtain ⟨gx, hg⟩ : ∃ g, wr.heap.size = g := ⟨_, rfl⟩
              obtain ⟨V1, hW⟩ : ∃ W, wr.alloc (.cells #[.int .i64 wt, .int .i64 qu, .int .i64 li, .int .i64 tg, .int .i64 rn] 76) = W := ⟨_, rfl⟩
              have Kx := Lib.hid kn
              rw [hW] at BB Kx
              rw [hg] at Kx hgb
              have HGx := Lib.hid hg
              have HWx := Lib.hid hW
              have HBx := Lib.hid hgb
              clear hW hg kn ba hgb
              go_upto_region 6 with fail
              rw [HWx.out]
              try rw [HGx.out]
              clear HWx HGx
              clear c0 c1 c2 c3 c4 hbL
              obtain ⟨qx_0, qx_1, qx_2, qx_3, qx_4⟩ := Kx.out.c5
              have lx := Kx.out.lt
              go_wp2_with fail
              refine (rinTn_any wt 1 16 _).mono ?_
              rw [F0.out]
              rintro e U2 ⟨rfl, bU2⟩
              clear qx_0 qx_1 qx_2 qx_3 qx_4 lx
              replace BB := Lib.hid (below3 BB.out bU2)
              replace Kx := Lib.hid (Kx.out.below bU2 Kx.out.lt)
              clear bU2
              obtain ⟨qx_0, qx_1, qx_2, qx_3, qx_4⟩ := Kx.out.c5
              have lx := Kx.out.lt
              go_wp2_with fail
              refine (rinTn_any qu 0 256 _).mono ?_
              rw [F1.out]
              rintro e U3 ⟨rfl, bU3⟩
              clear qx_0 qx_1 qx_2 qx_3 qx_4 lx
              replace BB := Lib.hid (below3 BB.out bU3)
              replace Kx := Lib.hid (Kx.out.below bU3 Kx.out.lt)
              clear bU3
              obtain ⟨qx_0, qx_1, qx_2, qx_3, qx_4⟩ := Kx.out.c5
              have lx := Kx.out.lt
              go_wp2
              go_ret
              exact RetB.of (ret_i64 (by rw [← HRR.out, HR.out])) BB.out
          · have HR : Hid (chkLn l = 1) := Lib.hid (chkLn_no (fun q => by have q := q.2 k (by rw [LX.out]; exact hkn); rw [HZ.out] at q; exact f0 q.1))
            have F0 := Lib.hid (decide_eq_false f0)
            clear f0
            have BB := Lib.hid OK.out.1
            have HO := Lib.hid OK.out.2
            clear OK
            have kn := Bk.new wr 76 #[.int .i64 wt, .int .i64 qu, .int .i64 li, .int .i64 tg, .int .i64 rn]
            have ba := (Below.refl wr.heap.size wr).alloc (Nat.le_refl _) (.cells #[.int .i64 wt, .int .i64 qu, .int .i64 li, .int .i64 tg, .int .i64 rn] 76)
            have hgb := BB.out.size
            replace BB := Lib.hid (below3 BB.out ba)
            obtain ⟨gx, hg⟩ : ∃ g, wr.heap.size = g := ⟨_, rfl⟩
            obtain ⟨V1, hW⟩ : ∃ W, wr.alloc (.cells #[.int .i64 wt, .int .i64 qu, .int .i64 li, .int .i64 tg, .int .i64 rn] 76) = W := ⟨_, rfl⟩
            have Kx := Lib.hid kn
            rw [hW] at BB Kx
            rw [hg] at Kx hgb
            have HGx := Lib.hid hg
            have HWx := Lib.hid hW
            have HBx := Lib.hid hgb
            clear hW hg kn ba hgb
            go_upto_region 6 with fail
            rw [HWx.out]
            try rw [HGx.out]
            clear HWx HGx
            clear c0 c1 c2 c3 c4 hbL
            obtain ⟨qx_0, qx_1, qx_2, qx_3, qx_4⟩ := Kx.out.c5
            have lx := Kx.out.lt
            go_wp2_with fail
            refine (rinTn_any wt 1 16 _).mono ?_
            rw [F0.out]
            rintro e U2 ⟨rfl, bU2⟩
            clear qx_0 qx_1 qx_2 qx_3 qx_4 lx
            replace BB := Lib.hid (below3 BB.out bU2)
            replace Kx := Lib.hid (Kx.out.below bU2 Kx.out.lt)
            clear bU2
            obtain ⟨qx_0, qx_1, qx_2, qx_3, qx_4⟩ := Kx.out.c5
            have lx := Kx.out.lt
            go_wp2
            go_ret
            exact RetB.of (ret_i64 (by rw [← HRR.out, HR.out])) BB.out
        · obtain rfl : n = k := by omega
          have HR : Hid (chkLn l = 0) := Lib.hid (chkLn_yes ⟨HN.out, fun j hj => OK.out.2 j (by rw [← LX.out]; exact hj)⟩)
          go_wp2
          go_ret
          exact RetB.of (ret_i64 (by rw [← HRR.out, HR.out])) OK.out.1

theorem drewN_tn (w : World) (a b : Nat) : ∃ k, (w.drewN a).drewN b = w.drewN k := ⟨a + b, by rw [World.drewN_drewN]⟩

/-- What is told: new tenants; an error's number with them; three numbers. -/
def OneTn (p : List Tn) (w : World) (e : Ending) (w' : World) : Prop := ∃ A c, e = .returned (.slice A p.length c) ∧ OwnTn 76 w' w.heap.size A c p ∧ Below w.heap.size w w'
def ListTn (r : Int × List Tn) (w : World) (e : Ending) (w' : World) : Prop := ∃ A c, e = .returned (.tuple #[.slice A r.2.length c, .int .i64 r.1]) ∧ OwnTn 76 w' w.heap.size A c r.2 ∧ Below w.heap.size w w'
def AllTn (r : Int × Int × Int) (w : World) (e : Ending) (w' : World) : Prop := e = .returned (.tuple #[.int .i64 r.1, .int .i64 r.2.1, .int .i64 r.2.2]) ∧ Below w.heap.size w w'
theorem listTn_no (e : Int) {w w' : World} (h : Below w.heap.size w w') : ListTn (e, []) w (.returned (.tuple #[.slice none 0 0, .int .i64 e])) w' := ⟨none, 0, rfl, OwnTn.nil_ _ _ _, h⟩
theorem below_grownTn {w w' : World} {t : TypeId} (h : (w.alloc (.cells #[] t)).grownBy w' (Value.slice (some ⟨w.heap.size, 0, none⟩) 0 0).ownBlock) : Below w.heap.size w w' :=
  ((Below.refl w.heap.size w).alloc (Nat.le_refl _) _).grown h (by simp) (by intro k hk; simp [Value.ownBlock] at hk; omega)
end Go.Proofs.Ytpfnoohcilefhaa

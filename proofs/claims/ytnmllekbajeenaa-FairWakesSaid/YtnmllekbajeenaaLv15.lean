/-
  Layer 15: the chapter's example comes to true.
-/
import Derived.Test.YtnmllekbajeenaaFrm
import Derived.Test.YtnmllekbajeenaaFrd
import Derived.Test.YtnmllekbajeenaaTne
namespace Go.Proofs.Ytnmllekbajeenaa
open Go.RowKit

theorem flags2_fr {w : World} {g : Nat} {t : TypeId} {a b : Bool} (h : Bk w g t #[.bool a, .bool b]) : Flags w (some ⟨g, 0, none⟩) 2 [a, b] :=
  ⟨rfl, by decide, fun _ => ⟨g, 0, rfl, h.lt, fun j hj => by
    have : j = 0 ∨ j = 1 := by omega
    rcases this with rfl | rfl
    · exact h.cell 0
    · exact h.cell 1⟩⟩
theorem ints6_fr {w : World} {g : Nat} {t : TypeId} (h : Bk w g t #[.int .i64 0, .int .i64 1, .int .i64 1, .int .i64 0, .int .i64 1, .int .i64 1]) : Ints w (some ⟨g, 0, none⟩) 6 wantFr :=
  ⟨rfl, by decide, by decide +kernel, fun _ => ⟨g, 0, rfl, h.lt, fun j hj => by
    have : j = 0 ∨ j = 1 ∨ j = 2 ∨ j = 3 ∨ j = 4 ∨ j = 5 := by omega
    rcases this with rfl | rfl | rfl | rfl | rfl | rfl
    · exact h.cell 0
    · exact h.cell 1
    · exact h.cell 2
    · exact h.cell 3
    · exact h.cell 4
    · exact h.cell 5⟩⟩
theorem live_st0 : (stFr 0).length = 2 := rfl

set_option maxHeartbeats 4000000 in
theorem live15_any (w : World) :
    Calls Try.prog 8 #[] w (RetB (.bool true) w) := by
  obtain ⟨k0, k1, b0⟩ := lies2 w #[.int .i64 1, .int .i64 2] #[.int .i64 1, .int .i64 1] 3 3
  have I0 := Lib.hid (ints2_fr k0 (by unfold Fit; decide) (by unfold Fit; decide))
  have I1 := Lib.hid (ints2_fr k1 (by unfold Fit; decide) (by unfold Fit; decide))
  have BB := Lib.hid b0
  clear k0 k1 b0
  go_enter Try.func8, Try.ntmps8
  go_wp2_with fail
  refine (pnew_tn _ _ 2 2 2 2 [1, 2] [1, 1] _ I0.out I1.out).mono ?_
  rw [st_new]
  rintro e U1 ⟨A1, c1, rfl, o1, b1⟩
  have T1 := Lib.hid o1.tns
  replace BB := Lib.hid (below3 BB.out b1)
  clear o1 b1 I0 I1
  dsimp only at T1 ⊢
  rw [live_st0] at T1 ⊢
  obtain ⟨k6, b6⟩ := lay1 U1 #[.int .i64 0, .int .i64 1, .int .i64 1, .int .i64 0, .int .i64 1, .int .i64 1] 3
  have IW := Lib.hid (ints6_fr k6)
  replace T1 := Lib.hid (T1.out.below b6)
  replace BB := Lib.hid (below3 BB.out b6)
  have HW := Lib.hid b6
  clear k6 b6
  go_wp2
  obtain ⟨W, hW⟩ : ∃ W, U1.alloc (.cells #[.int .i64 0, .int .i64 1, .int .i64 1, .int .i64 0, .int .i64 1, .int .i64 1] 3) = W := ⟨_, rfl⟩
  obtain ⟨gw, hgw⟩ : ∃ g, U1.heap.size = g := ⟨_, rfl⟩
  rw [hW] at IW T1 BB HW
  rw [hgw] at IW HW
  try rw [hW]
  try rw [hgw]
  clear hW hgw HW
  go_loopw [1, 19] (fun t1 t wr => ∃ (k : Nat) (A : Option Addr) (c : Nat), k ≤ 6 ∧ t = .int .i64 k ∧ t1 = .slice A 2 c ∧ Hid (Tns wr A 2 c (stFr k)) ∧ Hid (Below W.heap.size W wr)) (fun _ t _ => 6 - (intOf t).toNat)
  case atStart => exact ⟨0, A1, c1, by omega, rfl, rfl, T1, Lib.hid (Below.refl _ _)⟩
  case round =>
    clear T1
    rename World => wr
    obtain ⟨k, A, c, hk, rfl, rfl, TT, BW⟩ := hrel
    by_cases hkn : k < 6
    · obtain ⟨bL, oL, eL, hbL, c0⟩ := (IW.out.below BW.out).at_fr hkn
      injection eL with eL
      injection eL with e3 e4
      subst e3 e4
      rw [Nat.zero_add] at c0
      obtain ⟨sl, sc, sn⟩ := st_step k hkn
      obtain ⟨j, hj, hj2⟩ := st_want k hkn
      rw [hj] at c0 sl sc
      have SL := Lib.hid sl
      have SC := Lib.hid sc
      obtain ⟨p, hp⟩ : ∃ p, stFr (k + 1) = p := ⟨_, rfl⟩
      rw [hp] at SC sn
      have HP := Lib.hid hp
      have SN := Lib.hid sn
      have t5 : ((j : Int) != (j : Int)) = false := by simp
      clear sl sc sn hj hp
      go_upto_region 7 with fail
      clear c0 hbL
      obtain ⟨kf, bf⟩ := lay1 wr #[.bool true, .bool true] 4
      have F0 := Lib.hid (flags2_fr kf)
      have T0 := Lib.hid (TT.out.below bf)
      have B0 := Lib.hid (below3 BW.out bf)
      clear kf bf
      go_wp2_with fail
      refine (least_fr A _ 2 c 2 2 _ _ _ T0.out F0.out).mono ?_
      rw [SL.out]
      rintro e U2 ⟨rfl, b2⟩
      dsimp only
      have T2 := Lib.hid (T0.out.below b2)
      have B2 := Lib.hid (below3 B0.out b2)
      clear b2 T0 F0 B0
      go_wp2_with fail
      refine (charge_fr A 2 c _ (j : Int) 1 _ T2.out (by unfold Fit; omega) (by unfold Fit; decide) (by decide)).mono ?_
      rw [SC.out]
      rintro e U3 ⟨A3, c3, rfl, o3, b3⟩
      have T3 := Lib.hid o3.tns
      have B3 := Lib.hid (below3 B2.out b3)
      clear o3 b3 T2 B2
      dsimp only at T3 ⊢
      rw [SN.out] at T3 ⊢
      go_wp2
      go_roundw
      case rel => exact ⟨k + 1, A3, c3, by omega, by go_num, rfl, Lib.hid (by rw [HP.out]; exact T3.out), B3⟩
      case measure => simp [intOf]; omega
    · have BE := Lib.hid (below3 BB.out BW.out)
      obtain rfl : k = 6 := by omega
      go_wp2
      go_ret
      exact ⟨rfl, BE.out⟩

end Go.Proofs.Ytnmllekbajeenaa

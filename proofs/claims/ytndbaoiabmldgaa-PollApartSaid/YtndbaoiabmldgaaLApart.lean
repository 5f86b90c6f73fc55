/-
  The law PollApart: what is done with one descriptor leaves all others as they were: the walk.
-/
import Derived.Test.YtndbaoiabmldgaaLv
namespace Go.Proofs.Ytndbaoiabmldgaa
open Go.RowKit

set_option maxRecDepth 100000 in
set_option maxHeartbeats 8000000 in
theorem lapart_any (A : Option Addr) (n c : Nat) (l : List Ds) (i id : Int) (w : World) (hx : Dss w A n c l) (fid : Fit id) :
    Calls Try.prog 7 #[.slice A n c, .int .i64 i, .int .i64 id] w (TrueAns w) := by
  have HX := Lib.hid hx
  have LX := Lib.hid hx.1
  have FID := Lib.hid fid
  have hnc := hx.2.1
  clear hx fid
  go_enter Try.func7, Try.ntmps7
  go_wp2_with fail
  refine (live_any _).mono ?_
  rintro e w1 ⟨rfl, b0⟩
  replace HX := Lib.hid (HX.out.below b0)
  have BB := Lib.hid b0
  clear b0
  by_cases h60 : 60 < n
  · go_wp2_with fail
    go_ret
    exact ⟨rfl, BB.out⟩
  · have h60' : n ≤ 60 := by omega
    clear h60
    go_wp2_with fail
    obtain ⟨⟨e1, p1⟩, hr1⟩ : ∃ r, openR l i = r := ⟨_, rfl⟩
    have T1 := Lib.hid (show ToldD l i e1 p1 by have := open_told l i; rw [hr1] at this; exact this)
    have HR1 := Lib.hid hr1
    clear hr1
    refine (popen_any A n c l i _ HX.out (by omega)).mono ?_
    rw [HR1.out]
    rintro e w2 ⟨A1, c1, rfl, o1, b1⟩
    obtain ⟨q1, hq1⟩ : ∃ q, p1.length = q := ⟨_, rfl⟩
    have od1 := o1.dss
    dsimp only at od1 ⊢
    rw [hq1] at od1 ⊢
    have D1 := Lib.hid od1
    have cp1 := od1.2.1
    have LQ1 := Lib.hid hq1
    replace HX := Lib.hid (HX.out.below b1)
    replace BB := Lib.hid (below3 BB.out b1)
    clear o1 b1 hq1 od1 HR1
    go_wp2_with fail
    obtain ⟨⟨e2, x2, p2⟩, hr2⟩ : ∃ r, shutR l i = r := ⟨_, rfl⟩
    have T2 := Lib.hid (show ToldD l i e2 p2 by have := shut_told l i; rw [hr2] at this; exact this)
    have HR2 := Lib.hid hr2
    clear hr2
    refine (pshut_any A n c l i _ HX.out (by omega)).mono ?_
    rw [HR2.out]
    rintro e w3 ⟨A2, c2, rfl, o2, b2⟩
    obtain ⟨q2, hq2⟩ : ∃ q, p2.length = q := ⟨_, rfl⟩
    have od2 := o2.dss
    dsimp only at od2 ⊢
    rw [hq2] at od2 ⊢
    have D2 := Lib.hid od2
    have cp2 := od2.2.1
    have LQ2 := Lib.hid hq2
    replace HX := Lib.hid (HX.out.below b2)
    replace D1 := Lib.hid (D1.out.below b2)
    replace BB := Lib.hid (below3 BB.out b2)
    clear o2 b2 hq2 od2 HR2
    go_wp2_with fail
    obtain ⟨⟨e3, x3, p3⟩, hr3⟩ : ∃ r, armR l i id = r := ⟨_, rfl⟩
    have T3 := Lib.hid (show ToldD l i e3 p3 by have := arm_told l i id; rw [hr3] at this; exact this)
    have HR3 := Lib.hid hr3
    clear hr3
    refine (parm_any A n c l i id _ HX.out (by omega) FID.out).mono ?_
    rw [HR3.out]
    rintro e w4 ⟨A3, c3, rfl, o3, b3⟩
    obtain ⟨q3, hq3⟩ : ∃ q, p3.length = q := ⟨_, rfl⟩
    have od3 := o3.dss
    dsimp only at od3 ⊢
    rw [hq3] at od3 ⊢
    have D3 := Lib.hid od3
    have cp3 := od3.2.1
    have LQ3 := Lib.hid hq3
    replace HX := Lib.hid (HX.out.below b3)
    replace D1 := Lib.hid (D1.out.below b3)
    replace D2 := Lib.hid (D2.out.below b3)
    replace BB := Lib.hid (below3 BB.out b3)
    clear o3 b3 hq3 od3 HR3
    go_wp2_with fail
    obtain ⟨⟨e4, x4, p4⟩, hr4⟩ : ∃ r, fireR l i = r := ⟨_, rfl⟩
    have T4 := Lib.hid (show ToldD l i e4 p4 by have := fire_told l i; rw [hr4] at this; exact this)
    have HR4 := Lib.hid hr4
    clear hr4
    refine (pfire_any A n c l i _ HX.out (by omega)).mono ?_
    rw [HR4.out]
    rintro e w5 ⟨A4, c4, rfl, o4, b4⟩
    obtain ⟨q4, hq4⟩ : ∃ q, p4.length = q := ⟨_, rfl⟩
    have od4 := o4.dss
    dsimp only at od4 ⊢
    rw [hq4] at od4 ⊢
    have D4 := Lib.hid od4
    have cp4 := od4.2.1
    have LQ4 := Lib.hid hq4
    replace HX := Lib.hid (HX.out.below b4)
    replace D1 := Lib.hid (D1.out.below b4)
    replace D2 := Lib.hid (D2.out.below b4)
    replace D3 := Lib.hid (D3.out.below b4)
    replace BB := Lib.hid (below3 BB.out b4)
    clear o4 b4 hq4 od4 HR4
    have kb := Bk.new w5 22 #[.slice A1 q1 c1, .slice A2 q2 c2, .slice A3 q3 c3, .slice A4 q4 c4]
    have bb := (Below.refl w5.heap.size w5).alloc (Nat.le_refl _) (.cells #[.slice A1 q1 c1, .slice A2 q2 c2, .slice A3 q3 c3, .slice A4 q4 c4] 22)
    replace HX := Lib.hid (HX.out.below bb)
    replace D1 := Lib.hid (D1.out.below bb)
    replace D2 := Lib.hid (D2.out.below bb)
    replace D3 := Lib.hid (D3.out.below bb)
    replace D4 := Lib.hid (D4.out.below bb)
    replace BB := Lib.hid (below3 BB.out bb)
    obtain ⟨g, hg⟩ : ∃ g, w5.heap.size = g := ⟨_, rfl⟩
    obtain ⟨W, hW⟩ : ∃ W, w5.alloc (.cells #[.slice A1 q1 c1, .slice A2 q2 c2, .slice A3 q3 c3, .slice A4 q4 c4] 22) = W := ⟨_, rfl⟩
    rw [hW] at kb HX D1 D2 D3 D4 BB
    rw [hg] at kb
    have KB0 := Lib.hid kb
    have HW := Lib.hid hW
    have HG := Lib.hid hg
    clear hW hg kb bb
    have BW0 := Lib.hid (Below.refl W.heap.size W)
    go_upto_region 11 with fail
    rw [HW.out]
    try rw [HG.out]
    clear HW HG
    go_loopw [64] (fun t wr => ∃ k : Nat, k ≤ 4 ∧ t = .int .i64 k ∧ Hid (Bk wr g 22 #[.slice A1 q1 c1, .slice A2 q2 c2, .slice A3 q3 c3, .slice A4 q4 c4]) ∧ Hid (Below W.heap.size W wr)) (fun t _ => 4 - (intOf t).toNat)
    case atStart => exact ⟨0, Nat.zero_le _, rfl, KB0, BW0⟩
    case round =>
      clear KB0 BW0
      rename World => wr
      obtain ⟨k, hk, rfl, KB, BW⟩ := hrel
      by_cases hk4 : k < 4
      · have hk' : k = 0 ∨ k = 1 ∨ k = 2 ∨ k = 3 := by omega
        clear hk4 hk
        rcases hk' with rfl | rfl | rfl | rfl
        · have hc : _ = some (Value.slice A1 q1 c1) := KB.out.cell 0
          have hl := KB.out.lt
          have k2 := Bk.new wr 24 #[.int .i64 e1, .int .i64 e2, .int .i64 e3, .int .i64 e4]
          have cE : _ = some (Value.int .i64 e1) := k2.cell 0
          have b2 := (Below.refl wr.heap.size wr).alloc (Nat.le_refl _) (.cells #[.int .i64 e1, .int .i64 e2, .int .i64 e3, .int .i64 e4] 24)
          have KB2 := Lib.hid (KB.out.below b2 KB.out.lt)
          have BV := Lib.hid (below3 BW.out b2)
          clear k2 b2
          rcases T1.out with ⟨he, hp⟩ | ⟨he, hs⟩
          · have te : (e1 != 0) = true := by simpa using he
            have hq0 : q1 = 0 := by rw [← LQ1.out, hp]; rfl
            have tq : ((q1 : Int) != 0) = false := by simp; omega
            clear he hp hq0
            go_wp2_with fail
            go_roundw
            case rel => exact ⟨1, by omega, rfl, KB2, BV⟩
            case measure => decide
          · have te : (e1 != 0) = false := by simpa using he
            have hqn : q1 = n := by rw [← LQ1.out, hs.len]; exact LX.out
            have tn : ((q1 : Int) != (n : Int)) = false := by simp; omega
            have HQ := Lib.hid hqn
            clear hqn
            have HS := Lib.hid hs
            have HC := Lib.hid (fun U (hU : Below W.heap.size W U) => (if_pos hs.ok ▸ pcheck_any A1 q1 c1 p1 U (D1.out.below hU)))
            clear he hs
            go_wp2_with fail
            refine (HC.out _ BV.out).mono ?_
            rintro e wc ⟨rfl, b3⟩
            have BV := Lib.hid (below3 BV.out b3)
            have KB2 := Lib.hid (KB2.out.below b3 KB2.out.lt)
            clear b3 HC hc hl cE
            have BI0 := Lib.hid (Below.refl wc.heap.size wc)
            go_wp2_with fail
            go_loopw [94] (fun t wi => ∃ m : Nat, m ≤ n ∧ t = .int .i64 m ∧ Hid (Below wc.heap.size wc wi)) (fun t _ => n - (intOf t).toNat)
            case atStart => exact ⟨0, Nat.zero_le _, rfl, BI0⟩
            case round =>
              clear BI0
              rename World => wi
              obtain ⟨m, hm, rfl, BI⟩ := hrel
              by_cases hmn : m < n
              · have hmq : m < q1 := by rw [HQ.out]; exact hmn
                obtain ⟨bO, oO, rfl, hbO, a0, a1, a2⟩ := (D1.out.below (below3 BV.out BI.out)).at_ hmq
                obtain ⟨bF, oF, rfl, hbF, d0, d1, d2⟩ := (HX.out.below (below3 BV.out BI.out)).at_ hmn
                by_cases hmi : (m : Int) = i
                · have tm : ((m : Int) != i) = false := by simpa using hmi
                  clear hmi a0 a1 a2 d0 d1 d2
                  go_wp2_with fail
                  go_quiet (fail)
                  have BI2 := Lib.hid (below_drewN BI.out nq)
                  clear BI
                  go_wp2_with fail
                  go_roundw
                  case rel => exact ⟨m + 1, by omega, by go_num, BI2⟩
                  case measure => simp [intOf]; omega
                · have tm : ((m : Int) != i) = true := by simpa using hmi
                  rw [HS.out.rest m hmi] at a0 a1 a2
                  obtain ⟨⟨o1, r1, z1⟩, hz⟩ : ∃ x, dth l m = x := ⟨_, rfl⟩
                  rw [hz] at a0 a1 a2 d0 d1 d2
                  simp only at a0 a1 a2 d0 d1 d2
                  have hN := neq_fd o1 r1 z1 o1 r1 z1
                  have hG := guard_fd .neq
                  simp only [decide_true, Bool.not_true] at hN
                  clear hz hmi
                  go_wp2_with fail
                  go_quiet (fail)
                  have BI2 := Lib.hid (below_drewN BI.out nq)
                  clear BI a0 a1 a2 d0 d1 d2
                  go_wp2_with fail
                  go_roundw
                  case rel => exact ⟨m + 1, by omega, by go_num, BI2⟩
                  case measure => simp [intOf]; omega
              · have KB3 := Lib.hid (KB2.out.below BI.out KB2.out.lt)
                have BV3 := Lib.hid (below3 BV.out BI.out)
                clear BI KB2 BV
                go_wp2_with fail
                go_roundw
                case rel => exact ⟨1, by omega, rfl, KB3, BV3⟩
                case measure => decide
        · have hc : _ = some (Value.slice A2 q2 c2) := KB.out.cell 1
          have hl := KB.out.lt
          have k2 := Bk.new wr 24 #[.int .i64 e1, .int .i64 e2, .int .i64 e3, .int .i64 e4]
          have cE : _ = some (Value.int .i64 e2) := k2.cell 1
          have b2 := (Below.refl wr.heap.size wr).alloc (Nat.le_refl _) (.cells #[.int .i64 e1, .int .i64 e2, .int .i64 e3, .int .i64 e4] 24)
          have KB2 := Lib.hid (KB.out.below b2 KB.out.lt)
          have BV := Lib.hid (below3 BW.out b2)
          clear k2 b2
          rcases T2.out with ⟨he, hp⟩ | ⟨he, hs⟩
          · have te : (e2 != 0) = true := by simpa using he
            have hq0 : q2 = 0 := by rw [← LQ2.out, hp]; rfl
            have tq : ((q2 : Int) != 0) = false := by simp; omega
            clear he hp hq0
            go_wp2_with fail
            go_roundw
            case rel => exact ⟨2, by omega, rfl, KB2, BV⟩
            case measure => decide
          · have te : (e2 != 0) = false := by simpa using he
            have hqn : q2 = n := by rw [← LQ2.out, hs.len]; exact LX.out
            have tn : ((q2 : Int) != (n : Int)) = false := by simp; omega
            have HQ := Lib.hid hqn
            clear hqn
            have HS := Lib.hid hs
            have HC := Lib.hid (fun U (hU : Below W.heap.size W U) => (if_pos hs.ok ▸ pcheck_any A2 q2 c2 p2 U (D2.out.below hU)))
            clear he hs
            go_wp2_with fail
            refine (HC.out _ BV.out).mono ?_
            rintro e wc ⟨rfl, b3⟩
            have BV := Lib.hid (below3 BV.out b3)
            have KB2 := Lib.hid (KB2.out.below b3 KB2.out.lt)
            clear b3 HC hc hl cE
            have BI0 := Lib.hid (Below.refl wc.heap.size wc)
            go_wp2_with fail
            go_loopw [94] (fun t wi => ∃ m : Nat, m ≤ n ∧ t = .int .i64 m ∧ Hid (Below wc.heap.size wc wi)) (fun t _ => n - (intOf t).toNat)
            case atStart => exact ⟨0, Nat.zero_le _, rfl, BI0⟩
            case round =>
              clear BI0
              rename World => wi
              obtain ⟨m, hm, rfl, BI⟩ := hrel
              by_cases hmn : m < n
              · have hmq : m < q2 := by rw [HQ.out]; exact hmn
                obtain ⟨bO, oO, rfl, hbO, a0, a1, a2⟩ := (D2.out.below (below3 BV.out BI.out)).at_ hmq
                obtain ⟨bF, oF, rfl, hbF, d0, d1, d2⟩ := (HX.out.below (below3 BV.out BI.out)).at_ hmn
                by_cases hmi : (m : Int) = i
                · have tm : ((m : Int) != i) = false := by simpa using hmi
                  clear hmi a0 a1 a2 d0 d1 d2
                  go_wp2_with fail
                  go_quiet (fail)
                  have BI2 := Lib.hid (below_drewN BI.out nq)
                  clear BI
                  go_wp2_with fail
                  go_roundw
                  case rel => exact ⟨m + 1, by omega, by go_num, BI2⟩
                  case measure => simp [intOf]; omega
                · have tm : ((m : Int) != i) = true := by simpa using hmi
                  rw [HS.out.rest m hmi] at a0 a1 a2
                  obtain ⟨⟨o1, r1, z1⟩, hz⟩ : ∃ x, dth l m = x := ⟨_, rfl⟩
                  rw [hz] at a0 a1 a2 d0 d1 d2
                  simp only at a0 a1 a2 d0 d1 d2
                  have hN := neq_fd o1 r1 z1 o1 r1 z1
                  have hG := guard_fd .neq
                  simp only [decide_true, Bool.not_true] at hN
                  clear hz hmi
                  go_wp2_with fail
                  go_quiet (fail)
                  have BI2 := Lib.hid (below_drewN BI.out nq)
                  clear BI a0 a1 a2 d0 d1 d2
                  go_wp2_with fail
                  go_roundw
                  case rel => exact ⟨m + 1, by omega, by go_num, BI2⟩
                  case measure => simp [intOf]; omega
              · have KB3 := Lib.hid (KB2.out.below BI.out KB2.out.lt)
                have BV3 := Lib.hid (below3 BV.out BI.out)
                clear BI KB2 BV
                go_wp2_with fail
                go_roundw
                case rel => exact ⟨2, by omega, rfl, KB3, BV3⟩
                case measure => decide
        · have hc : _ = some (Value.slice A3 q3 c3) := KB.out.cell 2
          have hl := KB.out.lt
          have k2 := Bk.new wr 24 #[.int .i64 e1, .int .i64 e2, .int .i64 e3, .int .i64 e4]
          have cE : _ = some (Value.int .i64 e3) := k2.cell 2
          have b2 := (Below.refl wr.heap.size wr).alloc (Nat.le_refl _) (.cells #[.int .i64 e1, .int .i64 e2, .int .i64 e3, .int .i64 e4] 24)
          have KB2 := Lib.hid (KB.out.below b2 KB.out.lt)
          have BV := Lib.hid (below3 BW.out b2)
          clear k2 b2
          rcases T3.out with ⟨he, hp⟩ | ⟨he, hs⟩
          · have te : (e3 != 0) = true := by simpa using he
            have hq0 : q3 = 0 := by rw [← LQ3.out, hp]; rfl
            have tq : ((q3 : Int) != 0) = false := by simp; omega
            clear he hp hq0
            go_wp2_with fail
            go_roundw
            case rel => exact ⟨3, by omega, rfl, KB2, BV⟩
            case measure => decide
          · have te : (e3 != 0) = false := by simpa using he
            have hqn : q3 = n := by rw [← LQ3.out, hs.len]; exact LX.out
            have tn : ((q3 : Int) != (n : Int)) = false := by simp; omega
            have HQ := Lib.hid hqn
            clear hqn
            have HS := Lib.hid hs
            have HC := Lib.hid (fun U (hU : Below W.heap.size W U) => (if_pos hs.ok ▸ pcheck_any A3 q3 c3 p3 U (D3.out.below hU)))
            clear he hs
            go_wp2_with fail
            refine (HC.out _ BV.out).mono ?_
            rintro e wc ⟨rfl, b3⟩
            have BV := Lib.hid (below3 BV.out b3)
            have KB2 := Lib.hid (KB2.out.below b3 KB2.out.lt)
            clear b3 HC hc hl cE
            have BI0 := Lib.hid (Below.refl wc.heap.size wc)
            go_wp2_with fail
            go_loopw [94] (fun t wi => ∃ m : Nat, m ≤ n ∧ t = .int .i64 m ∧ Hid (Below wc.heap.size wc wi)) (fun t _ => n - (intOf t).toNat)
            case atStart => exact ⟨0, Nat.zero_le _, rfl, BI0⟩
            case round =>
              clear BI0
              rename World => wi
              obtain ⟨m, hm, rfl, BI⟩ := hrel
              by_cases hmn : m < n
              · have hmq : m < q3 := by rw [HQ.out]; exact hmn
                obtain ⟨bO, oO, rfl, hbO, a0, a1, a2⟩ := (D3.out.below (below3 BV.out BI.out)).at_ hmq
                obtain ⟨bF, oF, rfl, hbF, d0, d1, d2⟩ := (HX.out.below (below3 BV.out BI.out)).at_ hmn
                by_cases hmi : (m : Int) = i
                · have tm : ((m : Int) != i) = false := by simpa using hmi
                  clear hmi a0 a1 a2 d0 d1 d2
                  go_wp2_with fail
                  go_quiet (fail)
                  have BI2 := Lib.hid (below_drewN BI.out nq)
                  clear BI
                  go_wp2_with fail
                  go_roundw
                  case rel => exact ⟨m + 1, by omega, by go_num, BI2⟩
                  case measure => simp [intOf]; omega
                · have tm : ((m : Int) != i) = true := by simpa using hmi
                  rw [HS.out.rest m hmi] at a0 a1 a2
                  obtain ⟨⟨o1, r1, z1⟩, hz⟩ : ∃ x, dth l m = x := ⟨_, rfl⟩
                  rw [hz] at a0 a1 a2 d0 d1 d2
                  simp only at a0 a1 a2 d0 d1 d2
                  have hN := neq_fd o1 r1 z1 o1 r1 z1
                  have hG := guard_fd .neq
                  simp only [decide_true, Bool.not_true] at hN
                  clear hz hmi
                  go_wp2_with fail
                  go_quiet (fail)
                  have BI2 := Lib.hid (below_drewN BI.out nq)
                  clear BI a0 a1 a2 d0 d1 d2
                  go_wp2_with fail
                  go_roundw
                  case rel => exact ⟨m + 1, by omega, by go_num, BI2⟩
                  case measure => simp [intOf]; omega
              · have KB3 := Lib.hid (KB2.out.below BI.out KB2.out.lt)
                have BV3 := Lib.hid (below3 BV.out BI.out)
                clear BI KB2 BV
                go_wp2_with fail
                go_roundw
                case rel => exact ⟨3, by omega, rfl, KB3, BV3⟩
                case measure => decide
        · have hc : _ = some (Value.slice A4 q4 c4) := KB.out.cell 3
          have hl := KB.out.lt
          have k2 := Bk.new wr 24 #[.int .i64 e1, .int .i64 e2, .int .i64 e3, .int .i64 e4]
          have cE : _ = some (Value.int .i64 e4) := k2.cell 3
          have b2 := (Below.refl wr.heap.size wr).alloc (Nat.le_refl _) (.cells #[.int .i64 e1, .int .i64 e2, .int .i64 e3, .int .i64 e4] 24)
          have KB2 := Lib.hid (KB.out.below b2 KB.out.lt)
          have BV := Lib.hid (below3 BW.out b2)
          clear k2 b2
          rcases T4.out with ⟨he, hp⟩ | ⟨he, hs⟩
          · have te : (e4 != 0) = true := by simpa using he
            have hq0 : q4 = 0 := by rw [← LQ4.out, hp]; rfl
            have tq : ((q4 : Int) != 0) = false := by simp; omega
            clear he hp hq0
            go_wp2_with fail
            go_roundw
            case rel => exact ⟨4, by omega, rfl, KB2, BV⟩
            case measure => decide
          · have te : (e4 != 0) = false := by simpa using he
            have hqn : q4 = n := by rw [← LQ4.out, hs.len]; exact LX.out
            have tn : ((q4 : Int) != (n : Int)) = false := by simp; omega
            have HQ := Lib.hid hqn
            clear hqn
            have HS := Lib.hid hs
            have HC := Lib.hid (fun U (hU : Below W.heap.size W U) => (if_pos hs.ok ▸ pcheck_any A4 q4 c4 p4 U (D4.out.below hU)))
            clear he hs
            go_wp2_with fail
            refine (HC.out _ BV.out).mono ?_
            rintro e wc ⟨rfl, b3⟩
            have BV := Lib.hid (below3 BV.out b3)
            have KB2 := Lib.hid (KB2.out.below b3 KB2.out.lt)
            clear b3 HC hc hl cE
            have BI0 := Lib.hid (Below.refl wc.heap.size wc)
            go_wp2_with fail
            go_loopw [94] (fun t wi => ∃ m : Nat, m ≤ n ∧ t = .int .i64 m ∧ Hid (Below wc.heap.size wc wi)) (fun t _ => n - (intOf t).toNat)
            case atStart => exact ⟨0, Nat.zero_le _, rfl, BI0⟩
            case round =>
              clear BI0
              rename World => wi
              obtain ⟨m, hm, rfl, BI⟩ := hrel
              by_cases hmn : m < n
              · have hmq : m < q4 := by rw [HQ.out]; exact hmn
                obtain ⟨bO, oO, rfl, hbO, a0, a1, a2⟩ := (D4.out.below (below3 BV.out BI.out)).at_ hmq
                obtain ⟨bF, oF, rfl, hbF, d0, d1, d2⟩ := (HX.out.below (below3 BV.out BI.out)).at_ hmn
                by_cases hmi : (m : Int) = i
                · have tm : ((m : Int) != i) = false := by simpa using hmi
                  clear hmi a0 a1 a2 d0 d1 d2
                  go_wp2_with fail
                  go_quiet (fail)
                  have BI2 := Lib.hid (below_drewN BI.out nq)
                  clear BI
                  go_wp2_with fail
                  go_roundw
                  case rel => exact ⟨m + 1, by omega, by go_num, BI2⟩
                  case measure => simp [intOf]; omega
                · have tm : ((m : Int) != i) = true := by simpa using hmi
                  rw [HS.out.rest m hmi] at a0 a1 a2
                  obtain ⟨⟨o1, r1, z1⟩, hz⟩ : ∃ x, dth l m = x := ⟨_, rfl⟩
                  rw [hz] at a0 a1 a2 d0 d1 d2
                  simp only at a0 a1 a2 d0 d1 d2
                  have hN := neq_fd o1 r1 z1 o1 r1 z1
                  have hG := guard_fd .neq
                  simp only [decide_true, Bool.not_true] at hN
                  clear hz hmi
                  go_wp2_with fail
                  go_quiet (fail)
                  have BI2 := Lib.hid (below_drewN BI.out nq)
                  clear BI a0 a1 a2 d0 d1 d2
                  go_wp2_with fail
                  go_roundw
                  case rel => exact ⟨m + 1, by omega, by go_num, BI2⟩
                  case measure => simp [intOf]; omega
              · have KB3 := Lib.hid (KB2.out.below BI.out KB2.out.lt)
                have BV3 := Lib.hid (below3 BV.out BI.out)
                clear BI KB2 BV
                go_wp2_with fail
                go_roundw
                case rel => exact ⟨4, by omega, rfl, KB3, BV3⟩
                case measure => decide
      · obtain rfl : k = 4 := by omega
        have BF := Lib.hid (below3 BB.out BW.out)
        clear hk4 BW
        go_wp2_with fail
        go_ret
        exact ⟨rfl, BF.out⟩

end Go.Proofs.Ytndbaoiabmldgaa

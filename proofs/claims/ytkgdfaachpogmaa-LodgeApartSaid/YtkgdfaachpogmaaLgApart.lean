/-
  The law LodgeApart of layer 14: the walk.
-/
import Derived.Test.YtkgdfaachpogmaaLv14
namespace Go.Proofs.Ytkgdfaachpogmaa
open Go.RowKit

set_option maxRecDepth 100000 in
set_option maxHeartbeats 8000000 in
theorem lgapart_any (A : Option Addr) (n c : Nat) (l : List Tn) (i k : Int) (w : World) (hx : Tns w A n c l) :
    Calls Try.prog 5 #[.slice A n c, .int .i64 i, .int .i64 k] w (TrueAns w) := by
  have HX := Lib.hid hx
  have LX := Lib.hid hx.1
  have hnc := hx.2.1
  clear hx
  by_cases h0 : 100 < (n : Int)
  · have t0 : decide (100 < (n : Int)) = true := decide_eq_true h0
    clear h0
    go_enter Try.func5, Try.ntmps5
    go_wp2_with fail
    refine (live14_any _).mono ?_
    rintro e U0 ⟨rfl, b0⟩
    have BB := Lib.hid b0
    have Tl := Lib.hid (HX.out.below b0)
    clear b0
    go_wp2
    go_ret
    exact ⟨rfl, BB.out⟩
  · by_cases hik : i = k
    · have t0 : decide (100 < (n : Int)) = false := decide_eq_false h0
      have t1 : (i == k) = true := by simpa using hik
      clear hik h0
      go_enter Try.func5, Try.ntmps5
      go_wp2_with fail
      refine (live14_any _).mono ?_
      rintro e U0 ⟨rfl, b0⟩
      have BB := Lib.hid b0
      have Tl := Lib.hid (HX.out.below b0)
      clear b0
      go_wp2
      go_ret
      exact ⟨rfl, BB.out⟩
    · have HN := Lib.hid (show n ≤ 1000 by omega)
      have HIK := Lib.hid (show i ≠ k from hik)
      have t0 : decide (100 < (n : Int)) = false := decide_eq_false h0
      have t1 : (i == k) = false := by simpa using hik
      clear hik h0
      obtain ⟨⟨e1, p1⟩, h1⟩ : ∃ q, admitLn l i = q := ⟨_, rfl⟩
      have R1 := Lib.hid h1
      obtain ⟨⟨e2, p2⟩, h2⟩ : ∃ q, admitLn l k = q := ⟨_, rfl⟩
      have R2 := Lib.hid h2
      clear h1 h2
      go_enter Try.func5, Try.ntmps5
      go_wp2_with fail
      refine (live14_any _).mono ?_
      rintro e U0 ⟨rfl, b0⟩
      have BB := Lib.hid b0
      have Tl := Lib.hid (HX.out.below b0)
      clear b0
      go_wp2_with fail
      refine (padmit_tn A n c l i _ Tl.out HN.out).mono ?_
      rw [R1.out]
      rintro e U1 ⟨Aa, ca, rfl, oa, bU1⟩
      replace Tl := Lib.hid (Tl.out.below bU1)
      replace BB := Lib.hid (below3 BB.out bU1)
      have Ta := Lib.hid oa.tns
      have Ca := Lib.hid oa
      clear oa bU1
      go_wp2_with fail
      refine (padmit_tn A n c l k _ Tl.out HN.out).mono ?_
      rw [R2.out]
      rintro e U2 ⟨Ab, cb, rfl, ob, bU2⟩
      replace Tl := Lib.hid (Tl.out.below bU2)
      replace Ta := Lib.hid (Ta.out.below bU2)
      replace BB := Lib.hid (below3 BB.out bU2)
      have Tb := Lib.hid ob.tns
      have Cb := Lib.hid ob
      clear ob bU2
      dsimp only
      by_cases he : e1 = 0
      · by_cases hf : e2 = 0
        · subst hf
          subst he
          obtain ⟨p3, m1, m2, m3, m4, m5, m6, m7⟩ := admit_apart HIK.out R1.out R2.out
          have R3 := Lib.hid m1
          have R4 := Lib.hid m2
          have OL := Lib.hid m3
          have OC := Lib.hid m4
          have HL1 := Lib.hid (m5.trans LX.out)
          have HLV := Lib.hid m6
          have HAT := Lib.hid m7
          have HN1 := Lib.hid (show p1.length ≤ 1000 by have := HL1.out; have := HN.out; omega)
          have HN2 := Lib.hid (show p2.length ≤ 1000 by obtain ⟨-, q, -, -, -, e⟩ := changeLn_inv R2.out; have := HN.out; have := LX.out; rw [e, List.length_set]; omega)
          clear m1 m2 m3 m4 m5 m6 m7
          have t4 : ((p1.length : Int) != (n : Int)) = false := by have := HL1.out; simp; omega
          go_wp2_with fail
          refine (padmit_tn Aa _ ca p1 k _ Ta.out HN1.out).mono ?_
          rw [R3.out]
          rintro e U23 ⟨Ac, cc, rfl, oc, bU23⟩
          replace Tl := Lib.hid (Tl.out.below bU23)
          replace Ta := Lib.hid (Ta.out.below bU23)
          replace Tb := Lib.hid (Tb.out.below bU23)
          replace BB := Lib.hid (below3 BB.out bU23)
          have Tc := Lib.hid oc.tns
          have Cc := Lib.hid oc
          clear oc bU23
          go_wp2_with fail
          refine (padmit_tn Ab _ cb p2 i _ Tb.out HN2.out).mono ?_
          rw [R4.out]
          rintro e U24 ⟨Ad, cd, rfl, od, bU24⟩
          replace Tl := Lib.hid (Tl.out.below bU24)
          replace Ta := Lib.hid (Ta.out.below bU24)
          replace Tb := Lib.hid (Tb.out.below bU24)
          replace Tc := Lib.hid (Tc.out.below bU24)
          replace BB := Lib.hid (below3 BB.out bU24)
          have Td := Lib.hid od.tns
          have Cd := Lib.hid od
          clear od bU24
          go_wp2_with fail
          refine (psame_tn Ac Ad _ cc _ cd p3 p3 _ Tc.out Td.out).mono ?_
          rw [sameTn_refl]
          rintro e U25 ⟨rfl, bU25⟩
          replace Tl := Lib.hid (Tl.out.below bU25)
          replace Ta := Lib.hid (Ta.out.below bU25)
          replace Tb := Lib.hid (Tb.out.below bU25)
          replace Tc := Lib.hid (Tc.out.below bU25)
          replace Td := Lib.hid (Td.out.below bU25)
          replace BB := Lib.hid (below3 BB.out bU25)
          clear bU25
          go_wp2
          go_loopw [87] (fun t wr => ∃ j : Nat, j ≤ n ∧ t = .int .i64 j ∧ (∃ d, wr = World.drewN U25 d)) (fun t _ => n - (intOf t).toNat)
          case atStart => exact ⟨0, Nat.zero_le _, rfl, ⟨0, rfl⟩⟩
          case round =>
            obtain ⟨j, hj, rfl, ⟨d, rfl⟩⟩ := hrel
            by_cases hjn : j < n
            · by_cases hji : (j : Int) = i
              · have t5 : ((j : Int) != i) = false := by simpa using hji
                clear hji
                go_wp2_with fail
                go_quiet (fail)
                go_wp2_with fail
                go_roundw
                case rel => exact ⟨j + 1, by omega, by go_num, ⟨_, rfl⟩⟩
                case measure => simp [intOf]; omega
              · have t5 : ((j : Int) != i) = true := by simpa using hji
                obtain ⟨bL, oL, rfl, hbL, c0, c1, c2, c3, c4⟩ := Tl.out.at_ hjn
                have hj1 : j < p1.length := by rw [HL1.out]; exact hjn
                obtain ⟨bR, oR, rfl, hbR, d0, d1, d2, d3, d4⟩ := Ta.out.at_ hj1
                rw [HAT.out j (by rw [LX.out]; exact hjn) hji] at d0 d1 d2 d3 d4
                obtain ⟨⟨x0, x1, x2, x3, x4⟩, hz⟩ : ∃ x, tth l j = x := ⟨_, rfl⟩
                rw [hz] at c0 c1 c2 c3 c4 d0 d1 d2 d3 d4
                dsimp only at c0 c1 c2 c3 c4 d0 d1 d2 d3 d4
                have hN := neq_tn x0 x1 x2 x3 x4 x0 x1 x2 x3 x4
                have hG := guard_tn .neq
                simp only [decide_true, Bool.not_true] at hN
                have hca := Ta.out.2.1
                clear hz hji
                go_wp2_with fail
                go_quiet (fail)
                go_wp2_with fail
                go_roundw
                case rel => exact ⟨j + 1, by omega, by go_num, ⟨_, rfl⟩⟩
                case measure => simp [intOf]; omega
            · obtain rfl : n = j := by omega
              have bd := below_drewN (Below.refl U25.heap.size U25) d
              replace Tl := Lib.hid (Tl.out.below bd)
              replace Ta := Lib.hid (Ta.out.below bd)
              replace Tb := Lib.hid (Tb.out.below bd)
              replace Tc := Lib.hid (Tc.out.below bd)
              replace Td := Lib.hid (Td.out.below bd)
              replace BB := Lib.hid (below3 BB.out bd)
              clear bd
              generalize World.drewN U25 d = W at Tl Ta Tb Tc Td BB ⊢
              obtain ⟨s, hs⟩ : ∃ s, liveS l = s := ⟨_, rfl⟩
              obtain ⟨s2, hs2⟩ : ∃ s, liveS p3 = s := ⟨_, rfl⟩
              have RA := Lib.hid (allLn_ok OL.out)
              have RC := Lib.hid (allLn_ok OC.out)
              have hr := live_room OL.out
              rw [hs] at RA hr
              rw [hs2] at RC
              have hsum : s2 = s + 2 := by rw [← hs, ← hs2]; exact HLV.out
              subst hsum
              have hw : IntKind.i64.wrap (s + 2) = s + 2 := by rw [IntKind.wrap_i64]; omega
              clear hs hs2 hr
              go_wp2_with fail
              refine (pall_tn _ n c l _ Tl.out).mono ?_
              rw [RA.out]
              rintro e U56 ⟨rfl, bU56⟩
              replace Tl := Lib.hid (Tl.out.below bU56)
              replace Ta := Lib.hid (Ta.out.below bU56)
              replace Tb := Lib.hid (Tb.out.below bU56)
              replace Tc := Lib.hid (Tc.out.below bU56)
              replace Td := Lib.hid (Td.out.below bU56)
              replace BB := Lib.hid (below3 BB.out bU56)
              clear bU56
              dsimp only
              go_wp2_with fail
              refine (pall_tn Ac _ cc p3 _ Tc.out).mono ?_
              rw [RC.out]
              rintro e U57 ⟨rfl, bU57⟩
              replace Tl := Lib.hid (Tl.out.below bU57)
              replace Ta := Lib.hid (Ta.out.below bU57)
              replace Tb := Lib.hid (Tb.out.below bU57)
              replace Tc := Lib.hid (Tc.out.below bU57)
              replace Td := Lib.hid (Td.out.below bU57)
              replace BB := Lib.hid (below3 BB.out bU57)
              clear bU57
              dsimp only
              go_wp2
              go_ret
              exact ⟨rfl, BB.out⟩
        · have t3 : (e2 != 0) = true := by simpa using hf
          clear hf
          go_wp2
          go_ret
          exact ⟨rfl, BB.out⟩
      · have t2 : (e1 != 0) = true := by simpa using he
        clear he
        go_wp2
        go_ret
        exact ⟨rfl, BB.out⟩

end Go.Proofs.Ytkgdfaachpogmaa

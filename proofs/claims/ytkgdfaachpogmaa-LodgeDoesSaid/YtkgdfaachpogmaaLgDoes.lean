/-
  The law LodgeDoes of layer 14: the walk.
-/
import Derived.Test.YtkgdfaachpogmaaLv14
namespace Go.Proofs.Ytkgdfaachpogmaa
open Go.RowKit

set_option maxRecDepth 100000 in
set_option maxHeartbeats 16000000 in
theorem lgdoes_any (A0 A1 A2 A3 : Option Addr) (n0 c0 n1 c1 n2 c2 n3 c3 : Nat) (xs ys : List Int) (l os : List Tn) (i u : Int) (w : World) (hx0 : Ints w A0 n0 xs) (hx1 : Ints w A1 n1 ys) (hx2 : Tns w A2 n2 c2 l) (hx3 : Tns w A3 n3 c3 os) (hf : Fit u) :
    Calls Try.prog 3 #[.slice A0 n0 c0, .slice A1 n1 c1, .slice A2 n2 c2, .slice A3 n3 c3, .int .i64 i, .int .i64 u] w (TrueAns w) := by
  have HI0 := Lib.hid hx0
  have HI1 := Lib.hid hx1
  have HL := Lib.hid hx2
  have HO := Lib.hid hx3
  have LL := Lib.hid hx2.1
  have hnc2 := hx2.2.1
  have hnc3 := hx3.2.1
  have HFU := Lib.hid hf
  clear hx0 hx1 hx2 hx3 hf
  by_cases g0 : 100 < (n0 : Int)
  · replace g0 : decide (100 < (n0 : Int)) = true := decide_eq_true g0
    go_enter Try.func3, Try.ntmps3
    go_wp2_with fail
    refine (live14_any _).mono ?_
    rintro e U0 ⟨rfl, b0⟩
    have BB := Lib.hid b0
    have Tl := Lib.hid (HL.out.below b0)
    have To := Lib.hid (HO.out.below b0)
    clear b0
    go_wp2
    go_ret
    exact ⟨rfl, BB.out⟩
  · by_cases g1 : 100 < (n1 : Int)
    · replace g0 : decide (100 < (n0 : Int)) = false := decide_eq_false g0
      replace g1 : decide (100 < (n1 : Int)) = true := decide_eq_true g1
      go_enter Try.func3, Try.ntmps3
      go_wp2_with fail
      refine (live14_any _).mono ?_
      rintro e U0 ⟨rfl, b0⟩
      have BB := Lib.hid b0
      have Tl := Lib.hid (HL.out.below b0)
      have To := Lib.hid (HO.out.below b0)
      clear b0
      go_wp2
      go_ret
      exact ⟨rfl, BB.out⟩
    · by_cases g2 : 100 < (n2 : Int)
      · replace g0 : decide (100 < (n0 : Int)) = false := decide_eq_false g0
        replace g1 : decide (100 < (n1 : Int)) = false := decide_eq_false g1
        replace g2 : decide (100 < (n2 : Int)) = true := decide_eq_true g2
        go_enter Try.func3, Try.ntmps3
        go_wp2_with fail
        refine (live14_any _).mono ?_
        rintro e U0 ⟨rfl, b0⟩
        have BB := Lib.hid b0
        have Tl := Lib.hid (HL.out.below b0)
        have To := Lib.hid (HO.out.below b0)
        clear b0
        go_wp2
        go_ret
        exact ⟨rfl, BB.out⟩
      · by_cases g3 : 100 < (n3 : Int)
        · replace g0 : decide (100 < (n0 : Int)) = false := decide_eq_false g0
          replace g1 : decide (100 < (n1 : Int)) = false := decide_eq_false g1
          replace g2 : decide (100 < (n2 : Int)) = false := decide_eq_false g2
          replace g3 : decide (100 < (n3 : Int)) = true := decide_eq_true g3
          go_enter Try.func3, Try.ntmps3
          go_wp2_with fail
          refine (live14_any _).mono ?_
          rintro e U0 ⟨rfl, b0⟩
          have BB := Lib.hid b0
          have Tl := Lib.hid (HL.out.below b0)
          have To := Lib.hid (HO.out.below b0)
          clear b0
          go_wp2
          go_ret
          exact ⟨rfl, BB.out⟩
        · have HN0 := Lib.hid (show n0 ≤ 1000 by omega)
          have HN2 := Lib.hid (show n2 ≤ 1000 by omega)
          replace g0 : decide (100 < (n0 : Int)) = false := decide_eq_false g0
          replace g1 : decide (100 < (n1 : Int)) = false := decide_eq_false g1
          replace g2 : decide (100 < (n2 : Int)) = false := decide_eq_false g2
          replace g3 : decide (100 < (n3 : Int)) = false := decide_eq_false g3
          obtain ⟨⟨eN, pN⟩, hN⟩ : ∃ q, newLn xs ys = q := ⟨_, rfl⟩
          have RN := Lib.hid hN
          clear hN
          obtain ⟨⟨eC, pC⟩, hC⟩ : ∃ q, admitLn l i = q := ⟨_, rfl⟩
          have RC := Lib.hid hC
          clear hC
          obtain ⟨⟨eX, pX⟩, hX⟩ : ∃ q, leaveLn l i = q := ⟨_, rfl⟩
          have RX := Lib.hid hX
          clear hX
          obtain ⟨⟨eP, pP⟩, hP⟩ : ∃ q, countLn l i u = q := ⟨_, rfl⟩
          have RP := Lib.hid hP
          clear hP
          obtain ⟨⟨s1, s2, s3⟩, hA⟩ : ∃ q, allLn l = q := ⟨_, rfl⟩
          have RA := Lib.hid hA
          clear hA
          obtain ⟨z, hz⟩ : ∃ z, chkLn l = z := ⟨_, rfl⟩
          have RZ := Lib.hid hz
          obtain ⟨sb, hs⟩ : ∃ sb, sameTn l os = sb := ⟨_, rfl⟩
          have RS := Lib.hid hs
          clear hz hs
          go_enter Try.func3, Try.ntmps3
          go_wp2_with fail
          refine (live14_any _).mono ?_
          rintro e U0 ⟨rfl, b0⟩
          have BB := Lib.hid b0
          have Tl := Lib.hid (HL.out.below b0)
          have To := Lib.hid (HO.out.below b0)
          clear b0
          go_upto_region 7 with (at_builtin; refine wpList_append_tns _ rfl _ _ 23 rfl 35 _ rfl Try.underlying23 infoTn U0.heap.size none 0 [] 0 rfl rfl (OwnTn.nil_ _ _ _) A2 n2 c2 l rfl Tl.out (by have := HN2.out; simp; omega) (Nat.le_refl _) ?_; intro Aw cw w1 ho hgr; rw [List.nil_append] at ho ⊢; have b1 : Below U0.heap.size U0 w1 := (Below.refl _ _).grown hgr (Nat.le_refl _) (by intro k hk; simp [Value.ownBlock] at hk); have Tw := Lib.hid ho.tns; have Tl2 := Lib.hid (Tl.out.below b1); have To2 := Lib.hid (To.out.below b1); have BB2 := Lib.hid (below3 BB.out b1); clear ho hgr b1)
          replace Tl := Tl2
          replace To := To2
          replace BB := BB2
          clear Tl2 To2 BB2
          have hcw := Tw.out.2.1
          rw [LL.out] at Tw hcw ⊢
          go_wp2_with fail
          refine (pnew_tn A0 A1 n0 c0 n1 c1 xs ys _ (HI0.out.below BB.out) (HI1.out.below BB.out)).mono ?_
          rw [RN.out]
          rintro e U1 ⟨Aa, ca, rfl, oa, bU1⟩
          replace Tl := Lib.hid (Tl.out.below bU1)
          replace To := Lib.hid (To.out.below bU1)
          replace Tw := Lib.hid (Tw.out.below bU1)
          replace BB := Lib.hid (below3 BB.out bU1)
          have Ta := Lib.hid oa.tns
          have Ca := Lib.hid oa
          clear oa bU1
          dsimp only
          go_wp2_with fail
          refine (rnew_tn A0 A1 n0 c0 n1 c1 xs ys _ (HI0.out.below BB.out) (HI1.out.below BB.out) HN0.out).mono ?_
          rw [RN.out]
          rintro e U2 ⟨Ab, cb, rfl, ob, bU2⟩
          replace Tl := Lib.hid (Tl.out.below bU2)
          replace To := Lib.hid (To.out.below bU2)
          replace Tw := Lib.hid (Tw.out.below bU2)
          replace Ta := Lib.hid (Ta.out.below bU2)
          replace BB := Lib.hid (below3 BB.out bU2)
          have Tb := Lib.hid ob.tns
          have Cb := Lib.hid ob
          clear ob bU2
          dsimp only
          clear Ca Cb
          have SL := Tl
          have SW := Tw
          have SB := BB
          go_wp2_with fail
          refine (padmit_tn A2 n2 c2 l i _ Tl.out HN2.out).mono ?_
          rw [RC.out]
          rintro e U3 ⟨Ac, cc, rfl, oc, bU3⟩
          have BU := Lib.hid bU3
          replace Tl := Lib.hid (Tl.out.below bU3)
          replace To := Lib.hid (To.out.below bU3)
          replace Tw := Lib.hid (Tw.out.below bU3)
          replace Ta := Lib.hid (Ta.out.below bU3)
          replace Tb := Lib.hid (Tb.out.below bU3)
          replace BB := Lib.hid (below3 BB.out bU3)
          have Tc := Lib.hid oc.tns
          have Cc := Lib.hid oc
          clear oc bU3
          dsimp only
          have Oc := Cc
          clear Cc
          go_wp2_with fail
          refine (radmit_tn A2 n2 c2 l i _ Tl.out HN2.out).mono ?_
          rw [RC.out]
          rintro e U4 ⟨Ad, cd, rfl, od, bU4⟩
          replace Tl := Lib.hid (Tl.out.below bU4)
          replace To := Lib.hid (To.out.below bU4)
          replace Tw := Lib.hid (Tw.out.below bU4)
          replace Ta := Lib.hid (Ta.out.below bU4)
          replace Tb := Lib.hid (Tb.out.below bU4)
          replace Tc := Lib.hid (Tc.out.below bU4)
          replace Oc := Lib.hid (Oc.out.below bU4)
          replace BB := Lib.hid (below3 BB.out bU4)
          replace BU := Lib.hid (below3 BU.out bU4)
          have Td := Lib.hid od.tns
          have Cd := Lib.hid od
          clear od bU4
          dsimp only
          clear Cd
          go_wp2_with fail
          refine (pleave_tn A2 n2 c2 l i _ Tl.out HN2.out).mono ?_
          rw [RX.out]
          rintro e U5 ⟨Ax, cx, rfl, ox, bU5⟩
          replace Tl := Lib.hid (Tl.out.below bU5)
          replace To := Lib.hid (To.out.below bU5)
          replace Tw := Lib.hid (Tw.out.below bU5)
          replace Ta := Lib.hid (Ta.out.below bU5)
          replace Tb := Lib.hid (Tb.out.below bU5)
          replace Tc := Lib.hid (Tc.out.below bU5)
          replace Td := Lib.hid (Td.out.below bU5)
          replace Oc := Lib.hid (Oc.out.below bU5)
          replace BB := Lib.hid (below3 BB.out bU5)
          replace BU := Lib.hid (below3 BU.out bU5)
          have Tx := Lib.hid ox.tns
          have Cx := Lib.hid ox
          clear ox bU5
          dsimp only
          clear Cx
          go_wp2_with fail
          refine (rleave_tn A2 n2 c2 l i _ Tl.out HN2.out).mono ?_
          rw [RX.out]
          rintro e U6 ⟨Ay, cy, rfl, oy, bU6⟩
          replace Tl := Lib.hid (Tl.out.below bU6)
          replace To := Lib.hid (To.out.below bU6)
          replace Tw := Lib.hid (Tw.out.below bU6)
          replace Ta := Lib.hid (Ta.out.below bU6)
          replace Tb := Lib.hid (Tb.out.below bU6)
          replace Tc := Lib.hid (Tc.out.below bU6)
          replace Td := Lib.hid (Td.out.below bU6)
          replace Tx := Lib.hid (Tx.out.below bU6)
          replace Oc := Lib.hid (Oc.out.below bU6)
          replace BB := Lib.hid (below3 BB.out bU6)
          replace BU := Lib.hid (below3 BU.out bU6)
          have Ty := Lib.hid oy.tns
          have Cy := Lib.hid oy
          clear oy bU6
          dsimp only
          clear Cy
          go_wp2_with fail
          refine (pcount_tn A2 n2 c2 l i u _ Tl.out HN2.out HFU.out).mono ?_
          rw [RP.out]
          rintro e U7 ⟨Ap, cp, rfl, op, bU7⟩
          replace Tl := Lib.hid (Tl.out.below bU7)
          replace To := Lib.hid (To.out.below bU7)
          replace Tw := Lib.hid (Tw.out.below bU7)
          replace Ta := Lib.hid (Ta.out.below bU7)
          replace Tb := Lib.hid (Tb.out.below bU7)
          replace Tc := Lib.hid (Tc.out.below bU7)
          replace Td := Lib.hid (Td.out.below bU7)
          replace Tx := Lib.hid (Tx.out.below bU7)
          replace Ty := Lib.hid (Ty.out.below bU7)
          replace Oc := Lib.hid (Oc.out.below bU7)
          replace BB := Lib.hid (below3 BB.out bU7)
          replace BU := Lib.hid (below3 BU.out bU7)
          have Tp := Lib.hid op.tns
          have Cp := Lib.hid op
          clear op bU7
          dsimp only
          clear Cp
          go_wp2_with fail
          refine (rcount_tn A2 n2 c2 l i u _ Tl.out HN2.out).mono ?_
          rw [RP.out]
          rintro e U8 ⟨Ar, cr, rfl, or, bU8⟩
          replace Tl := Lib.hid (Tl.out.below bU8)
          replace To := Lib.hid (To.out.below bU8)
          replace Tw := Lib.hid (Tw.out.below bU8)
          replace Ta := Lib.hid (Ta.out.below bU8)
          replace Tb := Lib.hid (Tb.out.below bU8)
          replace Tc := Lib.hid (Tc.out.below bU8)
          replace Td := Lib.hid (Td.out.below bU8)
          replace Tx := Lib.hid (Tx.out.below bU8)
          replace Ty := Lib.hid (Ty.out.below bU8)
          replace Tp := Lib.hid (Tp.out.below bU8)
          replace Oc := Lib.hid (Oc.out.below bU8)
          replace BB := Lib.hid (below3 BB.out bU8)
          replace BU := Lib.hid (below3 BU.out bU8)
          have Tr := Lib.hid or.tns
          have Cr := Lib.hid or
          clear or bU8
          dsimp only
          clear Cr
          go_wp2_with fail
          refine (pall_tn A2 n2 c2 l _ Tl.out).mono ?_
          rw [RA.out]
          rintro e U9 ⟨rfl, bU9⟩
          replace Tl := Lib.hid (Tl.out.below bU9)
          replace To := Lib.hid (To.out.below bU9)
          replace Tw := Lib.hid (Tw.out.below bU9)
          replace Ta := Lib.hid (Ta.out.below bU9)
          replace Tb := Lib.hid (Tb.out.below bU9)
          replace Tc := Lib.hid (Tc.out.below bU9)
          replace Td := Lib.hid (Td.out.below bU9)
          replace Tx := Lib.hid (Tx.out.below bU9)
          replace Ty := Lib.hid (Ty.out.below bU9)
          replace Tp := Lib.hid (Tp.out.below bU9)
          replace Tr := Lib.hid (Tr.out.below bU9)
          replace Oc := Lib.hid (Oc.out.below bU9)
          replace BB := Lib.hid (below3 BB.out bU9)
          replace BU := Lib.hid (below3 BU.out bU9)
          clear bU9
          dsimp only
          go_wp2_with fail
          refine (rall_tn A2 n2 c2 l _ Tl.out).mono ?_
          rw [RA.out]
          rintro e U10 ⟨rfl, bU10⟩
          replace Tl := Lib.hid (Tl.out.below bU10)
          replace To := Lib.hid (To.out.below bU10)
          replace Tw := Lib.hid (Tw.out.below bU10)
          replace Ta := Lib.hid (Ta.out.below bU10)
          replace Tb := Lib.hid (Tb.out.below bU10)
          replace Tc := Lib.hid (Tc.out.below bU10)
          replace Td := Lib.hid (Td.out.below bU10)
          replace Tx := Lib.hid (Tx.out.below bU10)
          replace Ty := Lib.hid (Ty.out.below bU10)
          replace Tp := Lib.hid (Tp.out.below bU10)
          replace Tr := Lib.hid (Tr.out.below bU10)
          replace Oc := Lib.hid (Oc.out.below bU10)
          replace BB := Lib.hid (below3 BB.out bU10)
          replace BU := Lib.hid (below3 BU.out bU10)
          clear bU10
          dsimp only
          go_wp2_with fail
          refine (rsame_tn Aa Ab _ ca _ cb pN pN _ Ta.out Tb.out).mono ?_
          rw [sameTn_refl]
          rintro e U11 ⟨rfl, bU11⟩
          replace Tl := Lib.hid (Tl.out.below bU11)
          replace To := Lib.hid (To.out.below bU11)
          replace Tw := Lib.hid (Tw.out.below bU11)
          replace Ta := Lib.hid (Ta.out.below bU11)
          replace Tb := Lib.hid (Tb.out.below bU11)
          replace Tc := Lib.hid (Tc.out.below bU11)
          replace Td := Lib.hid (Td.out.below bU11)
          replace Tx := Lib.hid (Tx.out.below bU11)
          replace Ty := Lib.hid (Ty.out.below bU11)
          replace Tp := Lib.hid (Tp.out.below bU11)
          replace Tr := Lib.hid (Tr.out.below bU11)
          replace Oc := Lib.hid (Oc.out.below bU11)
          replace BB := Lib.hid (below3 BB.out bU11)
          replace BU := Lib.hid (below3 BU.out bU11)
          clear bU11
          clear Ta Tb
          go_wp2_with fail
          refine (rsame_tn Ac Ad _ cc _ cd pC pC _ Tc.out Td.out).mono ?_
          rw [sameTn_refl]
          rintro e U12 ⟨rfl, bU12⟩
          replace Tl := Lib.hid (Tl.out.below bU12)
          replace To := Lib.hid (To.out.below bU12)
          replace Tw := Lib.hid (Tw.out.below bU12)
          replace Tc := Lib.hid (Tc.out.below bU12)
          replace Td := Lib.hid (Td.out.below bU12)
          replace Tx := Lib.hid (Tx.out.below bU12)
          replace Ty := Lib.hid (Ty.out.below bU12)
          replace Tp := Lib.hid (Tp.out.below bU12)
          replace Tr := Lib.hid (Tr.out.below bU12)
          replace Oc := Lib.hid (Oc.out.below bU12)
          replace BB := Lib.hid (below3 BB.out bU12)
          replace BU := Lib.hid (below3 BU.out bU12)
          clear bU12
          clear Tc Td
          go_wp2_with fail
          refine (rsame_tn Ax Ay _ cx _ cy pX pX _ Tx.out Ty.out).mono ?_
          rw [sameTn_refl]
          rintro e U13 ⟨rfl, bU13⟩
          replace Tl := Lib.hid (Tl.out.below bU13)
          replace To := Lib.hid (To.out.below bU13)
          replace Tw := Lib.hid (Tw.out.below bU13)
          replace Tx := Lib.hid (Tx.out.below bU13)
          replace Ty := Lib.hid (Ty.out.below bU13)
          replace Tp := Lib.hid (Tp.out.below bU13)
          replace Tr := Lib.hid (Tr.out.below bU13)
          replace Oc := Lib.hid (Oc.out.below bU13)
          replace BB := Lib.hid (below3 BB.out bU13)
          replace BU := Lib.hid (below3 BU.out bU13)
          clear bU13
          clear Tx Ty
          go_wp2_with fail
          refine (rsame_tn Ap Ar _ cp _ cr pP pP _ Tp.out Tr.out).mono ?_
          rw [sameTn_refl]
          rintro e U14 ⟨rfl, bU14⟩
          replace Tl := Lib.hid (Tl.out.below bU14)
          replace To := Lib.hid (To.out.below bU14)
          replace Tw := Lib.hid (Tw.out.below bU14)
          replace Tp := Lib.hid (Tp.out.below bU14)
          replace Tr := Lib.hid (Tr.out.below bU14)
          replace Oc := Lib.hid (Oc.out.below bU14)
          replace BB := Lib.hid (below3 BB.out bU14)
          replace BU := Lib.hid (below3 BU.out bU14)
          clear bU14
          clear Tp Tr
          go_wp2_with fail
          refine (pchk_any A2 n2 c2 l _ Tl.out).mono ?_
          rw [RZ.out]
          rintro e U15 ⟨rfl, bU15⟩
          replace Tl := Lib.hid (Tl.out.below bU15)
          replace To := Lib.hid (To.out.below bU15)
          replace Tw := Lib.hid (Tw.out.below bU15)
          replace Oc := Lib.hid (Oc.out.below bU15)
          replace BB := Lib.hid (below3 BB.out bU15)
          replace BU := Lib.hid (below3 BU.out bU15)
          clear bU15
          go_wp2_with fail
          refine (rchk_tn A2 n2 c2 l _ Tl.out).mono ?_
          rw [RZ.out]
          rintro e U16 ⟨rfl, bU16⟩
          replace Tl := Lib.hid (Tl.out.below bU16)
          replace To := Lib.hid (To.out.below bU16)
          replace Tw := Lib.hid (Tw.out.below bU16)
          replace Oc := Lib.hid (Oc.out.below bU16)
          replace BB := Lib.hid (below3 BB.out bU16)
          replace BU := Lib.hid (below3 BU.out bU16)
          clear bU16
          go_wp2_with fail
          refine (psame_tn A2 A3 n2 c2 n3 c3 l os _ Tl.out To.out).mono ?_
          rw [RS.out]
          rintro e U17 ⟨rfl, bU17⟩
          replace Tl := Lib.hid (Tl.out.below bU17)
          replace To := Lib.hid (To.out.below bU17)
          replace Tw := Lib.hid (Tw.out.below bU17)
          replace Oc := Lib.hid (Oc.out.below bU17)
          replace BB := Lib.hid (below3 BB.out bU17)
          replace BU := Lib.hid (below3 BU.out bU17)
          clear bU17
          go_wp2_with fail
          refine (rsame_tn A2 A3 n2 c2 n3 c3 l os _ Tl.out To.out).mono ?_
          rw [RS.out]
          rintro e U18 ⟨rfl, bU18⟩
          replace Tl := Lib.hid (Tl.out.below bU18)
          replace To := Lib.hid (To.out.below bU18)
          replace Tw := Lib.hid (Tw.out.below bU18)
          replace Oc := Lib.hid (Oc.out.below bU18)
          replace BB := Lib.hid (below3 BB.out bU18)
          replace BU := Lib.hid (below3 BU.out bU18)
          clear bU18
          have HOK : Hid (∀ j, 0 ≤ j → j < pC.length → okTn (tth pC j)) := Lib.hid (fun j _ hj => by
              by_cases he : eC = 0
              · subst he
                exact (changeLn_okLn (fun x h => okTn_more h) RC.out).2 j hj
              · have hp : pC = [] := by
                  have := RC.out
                  unfold admitLn changeLn at this
                  split at this
                  · split at this
                    · injection this with h1 _; exact absurd h1.symm he
                    · injection this with _ h2; exact h2.symm
                  · injection this with _ h2; exact h2.symm
                rw [hp] at hj; simp at hj)
          obtain ⟨mc, hmc⟩ : ∃ m, pC.length = m := ⟨_, rfl⟩
          rw [hmc] at HOK
          try rw [hmc]
          have HMC := Lib.hid hmc
          clear hmc Tl To Tw BB
          go_wp2
          go_loopw [196] (fun t wr => ∃ (k : Nat) (p : List Tn), k ≤ mc ∧ t = .int .i64 k ∧ Hid (p.length = mc) ∧ Hid (∀ j, k ≤ j → j < mc → okTn (tth p j)) ∧ Hid (OwnTn 35 wr U2.heap.size Ac cc p) ∧ Hid (Below U2.heap.size U2 wr)) (fun t _ => mc - (intOf t).toNat)
          case atStart => exact ⟨0, pC, Nat.zero_le _, rfl, HMC, HOK, Oc, BU⟩
          case round =>
            clear HMC HOK Oc BU
            rename World => wr
            obtain ⟨k, p, hk, rfl, HPL, HK, OW, BW⟩ := hrel
            by_cases hkn : k < mc
            · have hkp : k < p.length := by rw [HPL.out]; exact hkn
              obtain ⟨g, rfl, hg, hbg⟩ := OW.out.some_ (by omega)
              obtain ⟨⟨q0, q1, q2, q3, q4⟩, f0, f1, f2, f3, f4⟩ := OW.out.at5 hkp
              have hok := HK.out k (Nat.le_refl _) hkn
              obtain ⟨⟨wt, qu, li, tg, rn⟩, hz⟩ : ∃ x, tth p k = x := ⟨_, rfl⟩
              have O2 := OW.out.setLi k (z := (tth p k).li + 1) (by have hq := okTn_fit hok; obtain ⟨-, ⟨-, y1⟩, ⟨y2, y3⟩, -⟩ := hok; exact ⟨hq.1, hq.2.1, (by unfold Fit; dsimp only; omega), hq.2.2.2⟩)
              have hbc := BW.out.setCell (p := ⟨g, k * 5 + 2, none⟩) hbg (.int .i64 ((tth p k).li + 1))
              have HK2 : Hid (∀ j, k + 1 ≤ j → j < mc → okTn (tth (p.set k { tth p k with li := (tth p k).li + 1 }) j)) := Lib.hid (fun j hj hm => by rw [tth_set hkp, if_neg (by omega)]; exact HK.out j (by omega) hm)
              have HP2 : Hid ((p.set k { tth p k with li := (tth p k).li + 1 }).length = mc) := Lib.hid (by rw [List.length_set]; exact HPL.out)
              generalize p.set k { tth p k with li := (tth p k).li + 1 } = p2 at O2 HK2 HP2
              rw [hz] at q0 q1 q2 q3 q4 O2 hbc hok
              obtain ⟨-, ⟨-, y1⟩, ⟨y2, y3⟩, -⟩ := hok
              dsimp only at q0 q1 q2 q3 q4 O2 hbc y1 y2 y3
              have hw : IntKind.i64.wrap (li + 1) = li + 1 := by rw [IntKind.wrap_i64]; omega
              have O2 := Lib.hid O2
              have B2 := Lib.hid hbc
              have hcap := OW.out.tns.2.1
              rw [HPL.out] at hcap
              clear hz hbc hkp y1 y2 y3 OW BW HK HPL q0 q1 q3 q4 f0 f1 f3 f4
              go_wp2
              go_roundw
              case rel => exact ⟨k + 1, p2, by omega, by go_num, HP2, HK2, O2, B2⟩
              case measure => simp [intOf]; omega
            · have Tl := Lib.hid (SL.out.below BW.out)
              have Tw := Lib.hid (SW.out.below BW.out)
              have BB := Lib.hid (below3 SB.out BW.out)
              clear OW HK
              go_wp2_with fail
              refine (rsame_tn A2 Aw n2 c2 _ cw l l _ Tl.out Tw.out).mono ?_
              rw [sameTn_refl]
              rintro e U49 ⟨rfl, bU49⟩
              replace Tl := Lib.hid (Tl.out.below bU49)
              replace Tw := Lib.hid (Tw.out.below bU49)
              replace BB := Lib.hid (below3 BB.out bU49)
              clear bU49
              go_wp2
              go_ret
              exact ⟨rfl, BB.out⟩

end Go.Proofs.Ytkgdfaachpogmaa

/-
  The law FairDoes of layer 15: the walk.
-/
import Derived.Test.YtnmllekbajeenaaLv15
namespace Go.Proofs.Ytnmllekbajeenaa
open Go.RowKit

set_option maxRecDepth 100000 in
set_option maxHeartbeats 16000000 in
theorem fairdoes_any (A B : Option Addr) (n c m d : Nat) (l : List Tn) (i k u wt : Int) (bs : List Bool) (w : World) (hx : Tns w A n c l) (hi : Fit i) (hk : Fit k) (hu : Fit u) (hb : m ≤ 400 → Flags w B m bs) :
    Calls Try.prog 3 #[.slice A n c, .int .i64 i, .int .i64 k, .int .i64 u, .slice B m d, .int .i64 wt] w (TrueAns w) := by
  have HX := Lib.hid hx
  have LX := Lib.hid hx.1
  have hnc := hx.2.1
  have HI := Lib.hid hi
  have HK := Lib.hid hk
  have HU := Lib.hid hu
  clear hx hi hk hu
  by_cases g0 : 100 < (n : Int)
  · replace g0 : decide (100 < (n : Int)) = true := decide_eq_true g0
    go_enter Try.func3, Try.ntmps3
    go_wp2_with fail
    refine (live15_any _).mono ?_
    rintro e U0 ⟨rfl, b0⟩
    have BB := Lib.hid b0
    clear b0
    go_wp2
    go_ret
    exact ⟨rfl, BB.out⟩
  · by_cases g1 : 100 < (m : Int)
    · replace g0 : decide (100 < (n : Int)) = false := decide_eq_false g0
      replace g1 : decide (100 < (m : Int)) = true := decide_eq_true g1
      go_enter Try.func3, Try.ntmps3
      go_wp2_with fail
      refine (live15_any _).mono ?_
      rintro e U0 ⟨rfl, b0⟩
      have BB := Lib.hid b0
      clear b0
      go_wp2
      go_ret
      exact ⟨rfl, BB.out⟩
    · have HN := Lib.hid (show n ≤ 1000 by omega)
      have Hb := Lib.hid (hb (by omega))
      have hbm2 := Hb.out.2.1
      replace g0 : decide (100 < (n : Int)) = false := decide_eq_false g0
      replace g1 : decide (100 < (m : Int)) = false := decide_eq_false g1
      clear hb
      obtain ⟨⟨eC, pC⟩, hC⟩ : ∃ q, chargeLn l i u = q := ⟨_, rfl⟩
      have RC := Lib.hid hC
      clear hC
      obtain ⟨⟨eF, pF⟩, hF⟩ : ∃ q, refundLn l i u = q := ⟨_, rfl⟩
      have RF := Lib.hid hF
      clear hF
      obtain ⟨⟨eW, pW⟩, hW⟩ : ∃ q, wakeFr l i bs = q := ⟨_, rfl⟩
      have RW := Lib.hid hW
      clear hW
      obtain ⟨⟨eL, pL⟩, hL⟩ : ∃ q, leastFr l bs = q := ⟨_, rfl⟩
      have RL := Lib.hid hL
      clear hL
      obtain ⟨⟨eG, pG⟩, hG⟩ : ∃ q, gapFr l i k = q := ⟨_, rfl⟩
      have RG := Lib.hid hG
      clear hG
      obtain ⟨⟨eK, pK⟩, hK⟩ : ∃ q, costFr wt u = q := ⟨_, rfl⟩
      have RK := Lib.hid hK
      clear hK
      go_enter Try.func3, Try.ntmps3
      go_wp2_with fail
      refine (live15_any _).mono ?_
      rintro e U0 ⟨rfl, b0⟩
      have BB := Lib.hid b0
      have Tl := Lib.hid (HX.out.below b0)
      have Fb := Lib.hid (Hb.out.below b0)
      clear b0
      go_upto_region 7 with (at_builtin; refine wpList_append_tns _ rfl _ _ 22 rfl 36 _ rfl Try.underlying22 infoTn U0.heap.size none 0 [] 0 rfl rfl (OwnTn.nil_ _ _ _) A n c l rfl Tl.out (by have := HN.out; simp; omega) (Nat.le_refl _) ?_; intro Aw cw w1 ho hgr; rw [List.nil_append] at ho ⊢; have b1 : Below U0.heap.size U0 w1 := (Below.refl _ _).grown hgr (Nat.le_refl _) (by intro k hk; simp [Value.ownBlock] at hk); have Tw := Lib.hid ho.tns; have Tl2 := Lib.hid (Tl.out.below b1); have Fb2 := Lib.hid (Fb.out.below b1); have BB2 := Lib.hid (below3 BB.out b1); clear ho hgr b1)
      replace Tl := Tl2
      replace Fb := Fb2
      replace BB := BB2
      clear Tl2 Fb2 BB2
      have hcw := Tw.out.2.1
      rw [LX.out] at Tw hcw ⊢
      have SL := Tl
      have SW := Tw
      have SB := BB
      go_wp2_with fail
      refine (charge_fr A n c l i u _ Tl.out HI.out HU.out HN.out).mono ?_
      rw [RC.out]
      rintro e U1 ⟨Ac, cc, rfl, oc, bU1⟩
      have BU := Lib.hid bU1
      replace Tl := Lib.hid (Tl.out.below bU1)
      replace Tw := Lib.hid (Tw.out.below bU1)
      replace BB := Lib.hid (below3 BB.out bU1)
      replace Fb := Lib.hid (Fb.out.below bU1)
      have Tc := Lib.hid oc.tns
      have Cc := Lib.hid oc
      clear oc bU1
      try dsimp only
      have Oc := Cc
      clear Cc
      go_wp2_with fail
      refine (rcharge_fr A n c l i u _ Tl.out HU.out HN.out).mono ?_
      rw [RC.out]
      rintro e U2 ⟨Ad, cd, rfl, od, bU2⟩
      replace Tl := Lib.hid (Tl.out.below bU2)
      replace Tw := Lib.hid (Tw.out.below bU2)
      replace Tc := Lib.hid (Tc.out.below bU2)
      replace Oc := Lib.hid (Oc.out.below bU2)
      replace BB := Lib.hid (below3 BB.out bU2)
      replace Fb := Lib.hid (Fb.out.below bU2)
      replace BU := Lib.hid (below3 BU.out bU2)
      have Td := Lib.hid od.tns
      have Cd := Lib.hid od
      clear od bU2
      try dsimp only
      clear Cd
      go_wp2_with fail
      refine (refund_fr A n c l i u _ Tl.out HI.out HU.out HN.out).mono ?_
      rw [RF.out]
      rintro e U3 ⟨Ax, cx, rfl, ox, bU3⟩
      replace Tl := Lib.hid (Tl.out.below bU3)
      replace Tw := Lib.hid (Tw.out.below bU3)
      replace Tc := Lib.hid (Tc.out.below bU3)
      replace Td := Lib.hid (Td.out.below bU3)
      replace Oc := Lib.hid (Oc.out.below bU3)
      replace BB := Lib.hid (below3 BB.out bU3)
      replace Fb := Lib.hid (Fb.out.below bU3)
      replace BU := Lib.hid (below3 BU.out bU3)
      have Tx := Lib.hid ox.tns
      have Cx := Lib.hid ox
      clear ox bU3
      try dsimp only
      clear Cx
      go_wp2_with fail
      refine (rrefund_fr A n c l i u _ Tl.out HU.out HN.out).mono ?_
      rw [RF.out]
      rintro e U4 ⟨Ay, cy, rfl, oy, bU4⟩
      replace Tl := Lib.hid (Tl.out.below bU4)
      replace Tw := Lib.hid (Tw.out.below bU4)
      replace Tc := Lib.hid (Tc.out.below bU4)
      replace Td := Lib.hid (Td.out.below bU4)
      replace Tx := Lib.hid (Tx.out.below bU4)
      replace Oc := Lib.hid (Oc.out.below bU4)
      replace BB := Lib.hid (below3 BB.out bU4)
      replace Fb := Lib.hid (Fb.out.below bU4)
      replace BU := Lib.hid (below3 BU.out bU4)
      have Ty := Lib.hid oy.tns
      have Cy := Lib.hid oy
      clear oy bU4
      try dsimp only
      clear Cy
      go_wp2_with fail
      refine (wake_fr A B n c m d l i bs _ Tl.out HI.out Fb.out).mono ?_
      rw [RW.out]
      rintro e U5 ⟨Ap, cp, rfl, op, bU5⟩
      replace Tl := Lib.hid (Tl.out.below bU5)
      replace Tw := Lib.hid (Tw.out.below bU5)
      replace Tc := Lib.hid (Tc.out.below bU5)
      replace Td := Lib.hid (Td.out.below bU5)
      replace Tx := Lib.hid (Tx.out.below bU5)
      replace Ty := Lib.hid (Ty.out.below bU5)
      replace Oc := Lib.hid (Oc.out.below bU5)
      replace BB := Lib.hid (below3 BB.out bU5)
      replace Fb := Lib.hid (Fb.out.below bU5)
      replace BU := Lib.hid (below3 BU.out bU5)
      have Tp := Lib.hid op.tns
      have Cp := Lib.hid op
      clear op bU5
      try dsimp only
      clear Cp
      go_wp2_with fail
      refine (rwake_fr A B n c m d l i bs _ Tl.out Fb.out).mono ?_
      rw [RW.out]
      rintro e U6 ⟨Ar, cr, rfl, or, bU6⟩
      replace Tl := Lib.hid (Tl.out.below bU6)
      replace Tw := Lib.hid (Tw.out.below bU6)
      replace Tc := Lib.hid (Tc.out.below bU6)
      replace Td := Lib.hid (Td.out.below bU6)
      replace Tx := Lib.hid (Tx.out.below bU6)
      replace Ty := Lib.hid (Ty.out.below bU6)
      replace Tp := Lib.hid (Tp.out.below bU6)
      replace Oc := Lib.hid (Oc.out.below bU6)
      replace BB := Lib.hid (below3 BB.out bU6)
      replace Fb := Lib.hid (Fb.out.below bU6)
      replace BU := Lib.hid (below3 BU.out bU6)
      have Tr := Lib.hid or.tns
      have Cr := Lib.hid or
      clear or bU6
      try dsimp only
      clear Cr
      go_wp2_with fail
      refine (least_fr A B n c m d l bs _ Tl.out Fb.out).mono ?_
      rw [RL.out]
      rintro e U7 ⟨rfl, bU7⟩
      replace Tl := Lib.hid (Tl.out.below bU7)
      replace Tw := Lib.hid (Tw.out.below bU7)
      replace Tc := Lib.hid (Tc.out.below bU7)
      replace Td := Lib.hid (Td.out.below bU7)
      replace Tx := Lib.hid (Tx.out.below bU7)
      replace Ty := Lib.hid (Ty.out.below bU7)
      replace Tp := Lib.hid (Tp.out.below bU7)
      replace Tr := Lib.hid (Tr.out.below bU7)
      replace Oc := Lib.hid (Oc.out.below bU7)
      replace BB := Lib.hid (below3 BB.out bU7)
      replace Fb := Lib.hid (Fb.out.below bU7)
      replace BU := Lib.hid (below3 BU.out bU7)
      clear bU7
      try dsimp only
      go_wp2_with fail
      refine (rleast_fr A B n c m d l bs _ Tl.out Fb.out).mono ?_
      rw [RL.out]
      rintro e U8 ⟨rfl, bU8⟩
      replace Tl := Lib.hid (Tl.out.below bU8)
      replace Tw := Lib.hid (Tw.out.below bU8)
      replace Tc := Lib.hid (Tc.out.below bU8)
      replace Td := Lib.hid (Td.out.below bU8)
      replace Tx := Lib.hid (Tx.out.below bU8)
      replace Ty := Lib.hid (Ty.out.below bU8)
      replace Tp := Lib.hid (Tp.out.below bU8)
      replace Tr := Lib.hid (Tr.out.below bU8)
      replace Oc := Lib.hid (Oc.out.below bU8)
      replace BB := Lib.hid (below3 BB.out bU8)
      replace Fb := Lib.hid (Fb.out.below bU8)
      replace BU := Lib.hid (below3 BU.out bU8)
      clear bU8
      try dsimp only
      go_wp2_with fail
      refine (gap_fr A n c l i k _ Tl.out HI.out HK.out).mono ?_
      rw [RG.out]
      rintro e U9 ⟨rfl, bU9⟩
      replace Tl := Lib.hid (Tl.out.below bU9)
      replace Tw := Lib.hid (Tw.out.below bU9)
      replace Tc := Lib.hid (Tc.out.below bU9)
      replace Td := Lib.hid (Td.out.below bU9)
      replace Tx := Lib.hid (Tx.out.below bU9)
      replace Ty := Lib.hid (Ty.out.below bU9)
      replace Tp := Lib.hid (Tp.out.below bU9)
      replace Tr := Lib.hid (Tr.out.below bU9)
      replace Oc := Lib.hid (Oc.out.below bU9)
      replace BB := Lib.hid (below3 BB.out bU9)
      replace Fb := Lib.hid (Fb.out.below bU9)
      replace BU := Lib.hid (below3 BU.out bU9)
      clear bU9
      try dsimp only
      go_wp2_with fail
      refine (rgap_fr A n c l i k _ Tl.out).mono ?_
      rw [RG.out]
      rintro e U10 ⟨rfl, bU10⟩
      replace Tl := Lib.hid (Tl.out.below bU10)
      replace Tw := Lib.hid (Tw.out.below bU10)
      replace Tc := Lib.hid (Tc.out.below bU10)
      replace Td := Lib.hid (Td.out.below bU10)
      replace Tx := Lib.hid (Tx.out.below bU10)
      replace Ty := Lib.hid (Ty.out.below bU10)
      replace Tp := Lib.hid (Tp.out.below bU10)
      replace Tr := Lib.hid (Tr.out.below bU10)
      replace Oc := Lib.hid (Oc.out.below bU10)
      replace BB := Lib.hid (below3 BB.out bU10)
      replace Fb := Lib.hid (Fb.out.below bU10)
      replace BU := Lib.hid (below3 BU.out bU10)
      clear bU10
      try dsimp only
      go_wp2_with fail
      refine (cost_fr wt u _ HU.out).mono ?_
      rw [RK.out]
      rintro e U11 ⟨rfl, bU11⟩
      replace Tl := Lib.hid (Tl.out.below bU11)
      replace Tw := Lib.hid (Tw.out.below bU11)
      replace Tc := Lib.hid (Tc.out.below bU11)
      replace Td := Lib.hid (Td.out.below bU11)
      replace Tx := Lib.hid (Tx.out.below bU11)
      replace Ty := Lib.hid (Ty.out.below bU11)
      replace Tp := Lib.hid (Tp.out.below bU11)
      replace Tr := Lib.hid (Tr.out.below bU11)
      replace Oc := Lib.hid (Oc.out.below bU11)
      replace BB := Lib.hid (below3 BB.out bU11)
      replace Fb := Lib.hid (Fb.out.below bU11)
      replace BU := Lib.hid (below3 BU.out bU11)
      clear bU11
      try dsimp only
      go_wp2_with fail
      refine (rcost_fr wt u _ HU.out).mono ?_
      rw [RK.out]
      rintro e U12 ⟨rfl, bU12⟩
      replace Tl := Lib.hid (Tl.out.below bU12)
      replace Tw := Lib.hid (Tw.out.below bU12)
      replace Tc := Lib.hid (Tc.out.below bU12)
      replace Td := Lib.hid (Td.out.below bU12)
      replace Tx := Lib.hid (Tx.out.below bU12)
      replace Ty := Lib.hid (Ty.out.below bU12)
      replace Tp := Lib.hid (Tp.out.below bU12)
      replace Tr := Lib.hid (Tr.out.below bU12)
      replace Oc := Lib.hid (Oc.out.below bU12)
      replace BB := Lib.hid (below3 BB.out bU12)
      replace Fb := Lib.hid (Fb.out.below bU12)
      replace BU := Lib.hid (below3 BU.out bU12)
      clear bU12
      try dsimp only
      go_wp2_with fail
      refine (rsame_tn Ac Ad _ cc _ cd pC pC _ Tc.out Td.out).mono ?_
      rw [sameTn_refl]
      rintro e U13 ⟨rfl, bU13⟩
      replace Tl := Lib.hid (Tl.out.below bU13)
      replace Tw := Lib.hid (Tw.out.below bU13)
      replace Tc := Lib.hid (Tc.out.below bU13)
      replace Td := Lib.hid (Td.out.below bU13)
      replace Tx := Lib.hid (Tx.out.below bU13)
      replace Ty := Lib.hid (Ty.out.below bU13)
      replace Tp := Lib.hid (Tp.out.below bU13)
      replace Tr := Lib.hid (Tr.out.below bU13)
      replace Oc := Lib.hid (Oc.out.below bU13)
      replace BB := Lib.hid (below3 BB.out bU13)
      replace Fb := Lib.hid (Fb.out.below bU13)
      replace BU := Lib.hid (below3 BU.out bU13)
      clear bU13
      try dsimp only
      clear Tc Td
      go_wp2_with fail
      refine (rsame_tn Ax Ay _ cx _ cy pF pF _ Tx.out Ty.out).mono ?_
      rw [sameTn_refl]
      rintro e U14 ⟨rfl, bU14⟩
      replace Tl := Lib.hid (Tl.out.below bU14)
      replace Tw := Lib.hid (Tw.out.below bU14)
      replace Tx := Lib.hid (Tx.out.below bU14)
      replace Ty := Lib.hid (Ty.out.below bU14)
      replace Tp := Lib.hid (Tp.out.below bU14)
      replace Tr := Lib.hid (Tr.out.below bU14)
      replace Oc := Lib.hid (Oc.out.below bU14)
      replace BB := Lib.hid (below3 BB.out bU14)
      replace Fb := Lib.hid (Fb.out.below bU14)
      replace BU := Lib.hid (below3 BU.out bU14)
      clear bU14
      try dsimp only
      clear Tx Ty
      go_wp2_with fail
      refine (rsame_tn Ap Ar _ cp _ cr pW pW _ Tp.out Tr.out).mono ?_
      rw [sameTn_refl]
      rintro e U15 ⟨rfl, bU15⟩
      replace Tl := Lib.hid (Tl.out.below bU15)
      replace Tw := Lib.hid (Tw.out.below bU15)
      replace Tp := Lib.hid (Tp.out.below bU15)
      replace Tr := Lib.hid (Tr.out.below bU15)
      replace Oc := Lib.hid (Oc.out.below bU15)
      replace BB := Lib.hid (below3 BB.out bU15)
      replace Fb := Lib.hid (Fb.out.below bU15)
      replace BU := Lib.hid (below3 BU.out bU15)
      clear bU15
      try dsimp only
      clear Tp Tr
      have HOK : Hid (∀ j, 0 ≤ j → j < pC.length → okTn (tth pC j)) := Lib.hid (fun j _ hj => by
        by_cases he : eC = 0
        · subst he
          exact (charge_res RC.out).2.1.2 j hj
        · have hp : pC = [] := by
            have := RC.out
            unfold chargeLn changeLn at this
            split at this
            · split at this
              · injection this with h1 _; exact absurd h1.symm he
              · injection this with _ h2; exact h2.symm
            · injection this with _ h2; exact h2.symm
          rw [hp] at hj; simp at hj)
      obtain ⟨mc, hmc⟩ : ∃ m, pC.length = m := ⟨_, rfl⟩
      rw [hmc] at HOK
      try rw [hmc]
      have HMC := Lib.hid hmc
      clear hmc Tl Tw Fb BB
      go_wp2
      go_loopw [195] (fun t wr => ∃ (k : Nat) (p : List Tn), k ≤ mc ∧ t = .int .i64 k ∧ Hid (p.length = mc) ∧ Hid (∀ j, k ≤ j → j < mc → okTn (tth p j)) ∧ Hid (OwnTn 36 wr w1.heap.size Ac cc p) ∧ Hid (Below w1.heap.size w1 wr)) (fun t _ => mc - (intOf t).toNat)
      case atStart => exact ⟨0, pC, Nat.zero_le _, rfl, HMC, HOK, Oc, BU⟩
      case round =>
        clear HMC HOK Oc BU
        rename World => wr
        obtain ⟨k, p, hk, rfl, HPL, HKK, OW, BW⟩ := hrel
        by_cases hkn : k < mc
        · have hkp : k < p.length := by rw [HPL.out]; exact hkn
          obtain ⟨g, rfl, hg, hbg⟩ := OW.out.some_ (by omega)
          obtain ⟨⟨q0, q1, q2, q3, q4⟩, f0, f1, f2, f3, f4⟩ := OW.out.at5 hkp
          have hok := HKK.out k (Nat.le_refl _) hkn
          obtain ⟨⟨wq, qu, li, tg, rn⟩, hz⟩ : ∃ x, tth p k = x := ⟨_, rfl⟩
          have O2 := OW.out.setTg k (z := (tth p k).tg + 1) (by have hq := okTn_fit_fr hok; obtain ⟨-, -, -, ⟨y2, y3⟩, -⟩ := hok; exact ⟨hq.1, hq.2.1, hq.2.2.1, (by unfold Fit; dsimp only; omega), hq.2.2.2.2⟩)
          have hbc := BW.out.setCell (p := ⟨g, k * 5 + 3, none⟩) hbg (.int .i64 ((tth p k).tg + 1))
          have HK2 : Hid (∀ j, k + 1 ≤ j → j < mc → okTn (tth (p.set k { tth p k with tg := (tth p k).tg + 1 }) j)) := Lib.hid (fun j hj hm => by rw [tth_set hkp, if_neg (by omega)]; exact HKK.out j (by omega) hm)
          have HP2 : Hid ((p.set k { tth p k with tg := (tth p k).tg + 1 }).length = mc) := Lib.hid (by rw [List.length_set]; exact HPL.out)
          generalize p.set k { tth p k with tg := (tth p k).tg + 1 } = p2 at O2 HK2 HP2
          rw [hz] at q0 q1 q2 q3 q4 O2 hbc hok
          obtain ⟨-, -, -, ⟨y2, y3⟩, -⟩ := hok
          dsimp only at q0 q1 q2 q3 q4 O2 hbc y2 y3
          have hw : IntKind.i64.wrap (tg + 1) = tg + 1 := by rw [IntKind.wrap_i64]; omega
          have O2 := Lib.hid O2
          have B2 := Lib.hid hbc
          have hcap := OW.out.tns.2.1
          rw [HPL.out] at hcap
          clear hz hbc hkp y2 y3 OW BW HKK HPL q0 q1 q2 q4 f0 f1 f2 f4
          go_wp2
          go_roundw
          case rel => exact ⟨k + 1, p2, by omega, by go_num, HP2, HK2, O2, B2⟩
          case measure => simp [intOf]; omega
        · have Tl := Lib.hid (SL.out.below BW.out)
          have Tw := Lib.hid (SW.out.below BW.out)
          have BB := Lib.hid (below3 SB.out BW.out)
          clear OW HKK
          go_wp2_with fail
          refine (rsame_tn A Aw n c _ cw l l _ Tl.out Tw.out).mono ?_
          rw [sameTn_refl]
          rintro e U46 ⟨rfl, bU46⟩
          replace Tl := Lib.hid (Tl.out.below bU46)
          replace Tw := Lib.hid (Tw.out.below bU46)
          replace BB := Lib.hid (below3 BB.out bU46)
          clear bU46
          try dsimp only
          go_wp2
          go_ret
          exact ⟨rfl, BB.out⟩

end Go.Proofs.Ytnmllekbajeenaa

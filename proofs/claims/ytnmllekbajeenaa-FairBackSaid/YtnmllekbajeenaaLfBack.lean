/-
  The law FairBack of layer 15: the walk.
-/
import Derived.Test.YtnmllekbajeenaaLv15
namespace Go.Proofs.Ytnmllekbajeenaa
open Go.RowKit

set_option maxRecDepth 100000 in
set_option maxHeartbeats 8000000 in
theorem fairback_any (A : Option Addr) (n c : Nat) (l : List Tn) (i u v : Int) (w : World) (hx : Tns w A n c l) (hi : Fit i) :
    Calls Try.prog 4 #[.slice A n c, .int .i64 i, .int .i64 u, .int .i64 v] w (TrueAns w) := by
  have HX := Lib.hid hx
  have LX := Lib.hid hx.1
  have hnc := hx.2.1
  have HI := Lib.hid hi
  clear hx hi
  by_cases g0 : 100 < (n : Int)
  · replace g0 : decide (100 < (n : Int)) = true := decide_eq_true g0
    go_enter Try.func4, Try.ntmps4
    go_wp2_with fail
    refine (live15_any _).mono ?_
    rintro e U0 ⟨rfl, b0⟩
    have BB := Lib.hid b0
    clear b0
    go_wp2
    go_ret
    exact ⟨rfl, BB.out⟩
  · by_cases g1 : u < 0
    · replace g0 : decide (100 < (n : Int)) = false := decide_eq_false g0
      replace g1 : decide (u < 0) = true := decide_eq_true g1
      go_enter Try.func4, Try.ntmps4
      go_wp2_with fail
      refine (live15_any _).mono ?_
      rintro e U0 ⟨rfl, b0⟩
      have BB := Lib.hid b0
      clear b0
      go_wp2
      go_ret
      exact ⟨rfl, BB.out⟩
    · by_cases g2 : v < 0
      · replace g0 : decide (100 < (n : Int)) = false := decide_eq_false g0
        replace g1 : decide (u < 0) = false := decide_eq_false g1
        replace g2 : decide (v < 0) = true := decide_eq_true g2
        go_enter Try.func4, Try.ntmps4
        go_wp2_with fail
        refine (live15_any _).mono ?_
        rintro e U0 ⟨rfl, b0⟩
        have BB := Lib.hid b0
        clear b0
        go_wp2
        go_ret
        exact ⟨rfl, BB.out⟩
      · by_cases g3 : 1073741824 < u
        · replace g0 : decide (100 < (n : Int)) = false := decide_eq_false g0
          replace g1 : decide (u < 0) = false := decide_eq_false g1
          replace g2 : decide (v < 0) = false := decide_eq_false g2
          replace g3 : decide (1073741824 < u) = true := decide_eq_true g3
          go_enter Try.func4, Try.ntmps4
          go_wp2_with fail
          refine (live15_any _).mono ?_
          rintro e U0 ⟨rfl, b0⟩
          have BB := Lib.hid b0
          clear b0
          go_wp2
          go_ret
          exact ⟨rfl, BB.out⟩
        · by_cases g4 : 1073741824 < v
          · replace g0 : decide (100 < (n : Int)) = false := decide_eq_false g0
            replace g1 : decide (u < 0) = false := decide_eq_false g1
            replace g2 : decide (v < 0) = false := decide_eq_false g2
            replace g3 : decide (1073741824 < u) = false := decide_eq_false g3
            replace g4 : decide (1073741824 < v) = true := decide_eq_true g4
            go_enter Try.func4, Try.ntmps4
            go_wp2_with fail
            refine (live15_any _).mono ?_
            rintro e U0 ⟨rfl, b0⟩
            have BB := Lib.hid b0
            clear b0
            go_wp2
            go_ret
            exact ⟨rfl, BB.out⟩
          · have HN := Lib.hid (show n ≤ 1000 by omega)
            have hw : IntKind.i64.wrap (u + v) = u + v := by rw [IntKind.wrap_i64]; omega
            have HU := Lib.hid (show 0 ≤ u ∧ u ≤ 1073741824 by omega)
            have HV := Lib.hid (show 0 ≤ v by omega)
            have FU : Hid (Fit u) := Lib.hid (by unfold Fit; omega)
            have FV : Hid (Fit v) := Lib.hid (by unfold Fit; omega)
            have FUV : Hid (Fit (u + v)) := Lib.hid (by unfold Fit; omega)
            replace g0 : decide (100 < (n : Int)) = false := decide_eq_false g0
            replace g1 : decide (u < 0) = false := decide_eq_false g1
            replace g2 : decide (v < 0) = false := decide_eq_false g2
            replace g3 : decide (1073741824 < u) = false := decide_eq_false g3
            replace g4 : decide (1073741824 < v) = false := decide_eq_false g4
            obtain ⟨⟨e1, p1⟩, h1⟩ : ∃ q, chargeLn l i u = q := ⟨_, rfl⟩
            have R1 := Lib.hid h1
            obtain ⟨⟨e3, p3⟩, h3⟩ : ∃ q, chargeLn l i (u + v) = q := ⟨_, rfl⟩
            have R3 := Lib.hid h3
            clear h1 h3
            go_enter Try.func4, Try.ntmps4
            go_wp2_with fail
            refine (live15_any _).mono ?_
            rintro e U0 ⟨rfl, b0⟩
            have BB := Lib.hid b0
            have Tl := Lib.hid (HX.out.below b0)
            clear b0
            go_wp2_with fail
            refine (charge_fr A n c l i u _ Tl.out HI.out FU.out HN.out).mono ?_
            rw [R1.out]
            rintro e U1 ⟨Aa, ca, rfl, oa, bU1⟩
            replace Tl := Lib.hid (Tl.out.below bU1)
            replace BB := Lib.hid (below3 BB.out bU1)
            have Ta := Lib.hid oa.tns
            have Ca := Lib.hid oa
            clear oa bU1
            try dsimp only
            go_wp2_with fail
            refine (charge_fr A n c l i (u + v) _ Tl.out HI.out FUV.out HN.out).mono ?_
            rw [R3.out]
            rintro e U2 ⟨Ag, cg, rfl, og, bU2⟩
            replace Tl := Lib.hid (Tl.out.below bU2)
            replace Ta := Lib.hid (Ta.out.below bU2)
            replace BB := Lib.hid (below3 BB.out bU2)
            have Tg := Lib.hid og.tns
            have Cg := Lib.hid og
            clear og bU2
            try dsimp only
            by_cases he : e1 = 0
            · subst he
              have R4 := Lib.hid ((charge_two R1.out HV.out).trans R3.out)
              have R5 := Lib.hid (charge_refund R1.out)
              have HL1 := Lib.hid ((charge_len R1.out).trans LX.out)
              have HN1 := Lib.hid (show p1.length ≤ 1000 by have := HL1.out; have := HN.out; omega)
              go_wp2_with fail
              refine (charge_fr Aa _ ca p1 i v _ Ta.out HI.out FV.out HN1.out).mono ?_
              rw [R4.out]
              rintro e U23 ⟨Ab, cb, rfl, ob, bU23⟩
              replace Tl := Lib.hid (Tl.out.below bU23)
              replace Ta := Lib.hid (Ta.out.below bU23)
              replace Tg := Lib.hid (Tg.out.below bU23)
              replace BB := Lib.hid (below3 BB.out bU23)
              have Tb := Lib.hid ob.tns
              have Cb := Lib.hid ob
              clear ob bU23
              try dsimp only
              go_wp2_with fail
              refine (refund_fr Aa _ ca p1 i u _ Ta.out HI.out FU.out HN1.out).mono ?_
              rw [R5.out]
              rintro e U24 ⟨Ac, cc, rfl, oc, bU24⟩
              replace Tl := Lib.hid (Tl.out.below bU24)
              replace Ta := Lib.hid (Ta.out.below bU24)
              replace Tg := Lib.hid (Tg.out.below bU24)
              replace Tb := Lib.hid (Tb.out.below bU24)
              replace BB := Lib.hid (below3 BB.out bU24)
              have Tc := Lib.hid oc.tns
              have Cc := Lib.hid oc
              clear oc bU24
              try dsimp only
              go_wp2_with fail
              refine (psame_tn Ab Ag _ cb _ cg p3 p3 _ Tb.out Tg.out).mono ?_
              rw [sameTn_refl]
              rintro e U25 ⟨rfl, bU25⟩
              replace Tl := Lib.hid (Tl.out.below bU25)
              replace Ta := Lib.hid (Ta.out.below bU25)
              replace Tg := Lib.hid (Tg.out.below bU25)
              replace Tb := Lib.hid (Tb.out.below bU25)
              replace Tc := Lib.hid (Tc.out.below bU25)
              replace BB := Lib.hid (below3 BB.out bU25)
              clear bU25
              try dsimp only
              go_wp2_with fail
              refine (psame_tn Ac A _ cc n c l l _ Tc.out Tl.out).mono ?_
              rw [sameTn_refl]
              rintro e U26 ⟨rfl, bU26⟩
              replace Tl := Lib.hid (Tl.out.below bU26)
              replace Ta := Lib.hid (Ta.out.below bU26)
              replace Tg := Lib.hid (Tg.out.below bU26)
              replace Tb := Lib.hid (Tb.out.below bU26)
              replace Tc := Lib.hid (Tc.out.below bU26)
              replace BB := Lib.hid (below3 BB.out bU26)
              clear bU26
              try dsimp only
              go_wp2
              go_loopw [18] (fun t wr => ∃ k : Nat, 1 ≤ k ∧ k ≤ 9 ∧ t = .int .i64 k ∧ Hid (Below w.heap.size w wr)) (fun t _ => 9 - (intOf t).toNat)
              case atStart => exact ⟨1, by omega, by omega, rfl, BB⟩
              case round =>
                clear BB
                rename World => wr
                obtain ⟨k, hk1, hk, rfl, BB⟩ := hrel
                by_cases hkn : k ≤ 8
                · obtain ⟨x, y, hx1, hy1, hxy, hy0, hy2⟩ := cost_twice (w := (k : Int)) (m := u) (by omega) HU.out
                  have HC1 := Lib.hid hx1
                  obtain ⟨q, hq⟩ : ∃ q : Int, 2 * (k : Int) = q := ⟨_, rfl⟩
                  rw [hq] at hy1
                  have HC2 := Lib.hid hy1
                  have wq : IntKind.i64.wrap (2 * (k : Int)) = q := by rw [IntKind.wrap_i64]; omega
                  have wy : IntKind.i64.wrap (2 * y) = x := by rw [IntKind.wrap_i64]; omega
                  have t7 : decide ((k : Int) ≤ 8) = true := decide_eq_true (by omega)
                  clear hx1 hy1 hxy hy0 hy2 hq
                  go_wp2_with fail
                  refine (cost_fr (k : Int) u _ FU.out).mono ?_
                  rw [HC1.out]
                  rintro e W1 ⟨rfl, b1⟩
                  dsimp only
                  replace BB := Lib.hid (below3 BB.out b1)
                  clear b1
                  go_wp2_with fail
                  refine (cost_fr q u _ FU.out).mono ?_
                  rw [HC2.out]
                  rintro e W2 ⟨rfl, b2⟩
                  dsimp only
                  replace BB := Lib.hid (below3 BB.out b2)
                  clear b2
                  go_wp2
                  go_roundw
                  case rel => exact ⟨k + 1, by omega, by omega, by go_num, BB⟩
                  case measure => simp [intOf]; omega
                · have t7 : decide ((k : Int) ≤ 8) = false := decide_eq_false (by omega)
                  go_wp2
                  go_ret
                  exact ⟨rfl, BB.out⟩
            · have hq := R3.out.symm.trans (charge_more R1.out he HU.out.1 HV.out)
              injection hq with hq1 hq2
              subst hq1
              have t3 : (e3 != 0) = true := by simpa using he
              clear he hq2
              go_wp2
              go_ret
              exact ⟨rfl, BB.out⟩

end Go.Proofs.Ytnmllekbajeenaa

/-
  The law LodgeBack of layer 14: the walk.
-/
import Derived.Test.YtkgdfaachpogmaaLv14
namespace Go.Proofs.Ytkgdfaachpogmaa
open Go.RowKit

set_option maxRecDepth 100000 in
set_option maxHeartbeats 8000000 in
theorem lgback_any (A : Option Addr) (n c : Nat) (l : List Tn) (i a b : Int) (w : World) (hx : Tns w A n c l) :
    Calls Try.prog 4 #[.slice A n c, .int .i64 i, .int .i64 a, .int .i64 b] w (TrueAns w) := by
  have HX := Lib.hid hx
  have LX := Lib.hid hx.1
  have hnc := hx.2.1
  clear hx
  by_cases h0 : 100 < (n : Int)
  · have t0 : decide (100 < (n : Int)) = true := decide_eq_true h0
    clear h0
    go_enter Try.func4, Try.ntmps4
    go_wp2_with fail
    refine (live14_any _).mono ?_
    rintro e U0 ⟨rfl, b0⟩
    have BB := Lib.hid b0
    have Tl := Lib.hid (HX.out.below b0)
    clear b0
    go_wp2
    go_ret
    exact ⟨rfl, BB.out⟩
  · have HN := Lib.hid (show n ≤ 1000 by omega)
    have t0 : decide (100 < (n : Int)) = false := decide_eq_false h0
    clear h0
    obtain ⟨⟨e1, p1⟩, h1⟩ : ∃ q, admitLn l i = q := ⟨_, rfl⟩
    have R1 := Lib.hid h1
    clear h1
    go_enter Try.func4, Try.ntmps4
    go_wp2_with fail
    refine (live14_any _).mono ?_
    rintro e U0 ⟨rfl, b0⟩
    have BB := Lib.hid b0
    have Tl := Lib.hid (HX.out.below b0)
    clear b0
    go_wp2_with fail
    refine (padmit_tn A n c l i _ Tl.out HN.out).mono ?_
    rw [R1.out]
    rintro e U1 ⟨Aa, ca, rfl, oa, bU1⟩
    replace Tl := Lib.hid (Tl.out.below bU1)
    replace BB := Lib.hid (below3 BB.out bU1)
    have Ta := Lib.hid oa.tns
    have Ca := Lib.hid oa
    clear oa bU1
    dsimp only
    by_cases he : e1 = 0
    · subst he
      have RL := Lib.hid (admit_leave R1.out)
      have HN1 := Lib.hid (show p1.length ≤ 1000 by obtain ⟨-, q, -, -, -, e⟩ := changeLn_inv R1.out; have := HN.out; have := LX.out; rw [e, List.length_set]; omega)
      go_wp2_with fail
      refine (pleave_tn Aa _ ca p1 i _ Ta.out HN1.out).mono ?_
      rw [RL.out]
      rintro e U22 ⟨Ab, cb, rfl, ob, bU22⟩
      replace Tl := Lib.hid (Tl.out.below bU22)
      replace Ta := Lib.hid (Ta.out.below bU22)
      replace BB := Lib.hid (below3 BB.out bU22)
      have Tb := Lib.hid ob.tns
      have Cb := Lib.hid ob
      clear ob bU22
      dsimp only
      go_wp2_with fail
      refine (psame_tn Ab A _ cb n c l l _ Tb.out Tl.out).mono ?_
      rw [sameTn_refl]
      rintro e U23 ⟨rfl, bU23⟩
      replace Tl := Lib.hid (Tl.out.below bU23)
      replace Ta := Lib.hid (Ta.out.below bU23)
      replace Tb := Lib.hid (Tb.out.below bU23)
      replace BB := Lib.hid (below3 BB.out bU23)
      clear bU23
      by_cases g0 : a < 0
      · replace g0 : decide (a < 0) = true := decide_eq_true g0
        go_wp2
        go_ret
        exact ⟨rfl, BB.out⟩
      · by_cases g1 : b < 0
        · replace g0 : decide (a < 0) = false := decide_eq_false g0
          replace g1 : decide (b < 0) = true := decide_eq_true g1
          go_wp2
          go_ret
          exact ⟨rfl, BB.out⟩
        · by_cases g2 : 1099511627776 < a
          · replace g0 : decide (a < 0) = false := decide_eq_false g0
            replace g1 : decide (b < 0) = false := decide_eq_false g1
            replace g2 : decide (1099511627776 < a) = true := decide_eq_true g2
            go_wp2
            go_ret
            exact ⟨rfl, BB.out⟩
          · by_cases g3 : 1099511627776 < b
            · replace g0 : decide (a < 0) = false := decide_eq_false g0
              replace g1 : decide (b < 0) = false := decide_eq_false g1
              replace g2 : decide (1099511627776 < a) = false := decide_eq_false g2
              replace g3 : decide (1099511627776 < b) = true := decide_eq_true g3
              go_wp2
              go_ret
              exact ⟨rfl, BB.out⟩
            · have hw : IntKind.i64.wrap (a + b) = a + b := by rw [IntKind.wrap_i64]; omega
              have HA := Lib.hid (show 0 ≤ a by omega)
              have HB := Lib.hid (show 0 ≤ b by omega)
              have FA : Hid (Fit a) := Lib.hid (by unfold Fit; omega)
              have FB : Hid (Fit b) := Lib.hid (by unfold Fit; omega)
              have FAB : Hid (Fit (a + b)) := Lib.hid (by unfold Fit; omega)
              replace g0 : decide (a < 0) = false := decide_eq_false g0
              replace g1 : decide (b < 0) = false := decide_eq_false g1
              replace g2 : decide (1099511627776 < a) = false := decide_eq_false g2
              replace g3 : decide (1099511627776 < b) = false := decide_eq_false g3
              obtain ⟨⟨e2, p2⟩, h2⟩ : ∃ q, countLn l i a = q := ⟨_, rfl⟩
              have R2 := Lib.hid h2
              obtain ⟨⟨e3, p3⟩, h3⟩ : ∃ q, countLn l i (a + b) = q := ⟨_, rfl⟩
              have R3 := Lib.hid h3
              clear h2 h3
              go_wp2_with fail
              refine (pcount_tn A n c l i a _ Tl.out HN.out FA.out).mono ?_
              rw [R2.out]
              rintro e U44 ⟨Af, cf, rfl, of, bU44⟩
              replace Tl := Lib.hid (Tl.out.below bU44)
              replace Ta := Lib.hid (Ta.out.below bU44)
              replace Tb := Lib.hid (Tb.out.below bU44)
              replace BB := Lib.hid (below3 BB.out bU44)
              have Tf := Lib.hid of.tns
              have Cf := Lib.hid of
              clear of bU44
              go_wp2_with fail
              refine (pcount_tn A n c l i (a + b) _ Tl.out HN.out FAB.out).mono ?_
              rw [R3.out]
              rintro e U45 ⟨Ag, cg, rfl, og, bU45⟩
              replace Tl := Lib.hid (Tl.out.below bU45)
              replace Ta := Lib.hid (Ta.out.below bU45)
              replace Tb := Lib.hid (Tb.out.below bU45)
              replace Tf := Lib.hid (Tf.out.below bU45)
              replace BB := Lib.hid (below3 BB.out bU45)
              have Tg := Lib.hid og.tns
              have Cg := Lib.hid og
              clear og bU45
              dsimp only
              by_cases he2 : e2 = 0
              · subst he2
                have R4 := Lib.hid ((count_two R2.out HB.out).trans R3.out)
                have HN2 := Lib.hid (show p2.length ≤ 1000 by obtain ⟨-, q, -, -, -, e⟩ := changeLn_inv R2.out; have := HN.out; have := LX.out; rw [e, List.length_set]; omega)
                go_wp2_with fail
                refine (pcount_tn Af _ cf p2 i b _ Tf.out HN2.out FB.out).mono ?_
                rw [R4.out]
                rintro e U66 ⟨Ah, ch, rfl, oh, bU66⟩
                replace Tl := Lib.hid (Tl.out.below bU66)
                replace Ta := Lib.hid (Ta.out.below bU66)
                replace Tb := Lib.hid (Tb.out.below bU66)
                replace Tf := Lib.hid (Tf.out.below bU66)
                replace Tg := Lib.hid (Tg.out.below bU66)
                replace BB := Lib.hid (below3 BB.out bU66)
                have Th := Lib.hid oh.tns
                have Ch := Lib.hid oh
                clear oh bU66
                dsimp only
                go_wp2_with fail
                refine (psame_tn Ah Ag _ ch _ cg p3 p3 _ Th.out Tg.out).mono ?_
                rw [sameTn_refl]
                rintro e U67 ⟨rfl, bU67⟩
                replace Tl := Lib.hid (Tl.out.below bU67)
                replace Ta := Lib.hid (Ta.out.below bU67)
                replace Tb := Lib.hid (Tb.out.below bU67)
                replace Tf := Lib.hid (Tf.out.below bU67)
                replace Tg := Lib.hid (Tg.out.below bU67)
                replace Th := Lib.hid (Th.out.below bU67)
                replace BB := Lib.hid (below3 BB.out bU67)
                clear bU67
                go_wp2
                go_ret
                exact ⟨rfl, BB.out⟩
              · have hq := R3.out.symm.trans (count_more R2.out he2 HA.out HB.out)
                injection hq with hq1 hq2
                subst hq1
                have t3 : (e3 != 0) = true := by simpa using he2
                clear he2 hq2
                go_wp2
                go_ret
                exact ⟨rfl, BB.out⟩
    · have t1 : (e1 == 0) = false := by simpa using he
      clear he
      by_cases g0 : a < 0
      · replace g0 : decide (a < 0) = true := decide_eq_true g0
        go_wp2
        go_ret
        exact ⟨rfl, BB.out⟩
      · by_cases g1 : b < 0
        · replace g0 : decide (a < 0) = false := decide_eq_false g0
          replace g1 : decide (b < 0) = true := decide_eq_true g1
          go_wp2
          go_ret
          exact ⟨rfl, BB.out⟩
        · by_cases g2 : 1099511627776 < a
          · replace g0 : decide (a < 0) = false := decide_eq_false g0
            replace g1 : decide (b < 0) = false := decide_eq_false g1
            replace g2 : decide (1099511627776 < a) = true := decide_eq_true g2
            go_wp2
            go_ret
            exact ⟨rfl, BB.out⟩
          · by_cases g3 : 1099511627776 < b
            · replace g0 : decide (a < 0) = false := decide_eq_false g0
              replace g1 : decide (b < 0) = false := decide_eq_false g1
              replace g2 : decide (1099511627776 < a) = false := decide_eq_false g2
              replace g3 : decide (1099511627776 < b) = true := decide_eq_true g3
              go_wp2
              go_ret
              exact ⟨rfl, BB.out⟩
            · have hw : IntKind.i64.wrap (a + b) = a + b := by rw [IntKind.wrap_i64]; omega
              have HA := Lib.hid (show 0 ≤ a by omega)
              have HB := Lib.hid (show 0 ≤ b by omega)
              have FA : Hid (Fit a) := Lib.hid (by unfold Fit; omega)
              have FB : Hid (Fit b) := Lib.hid (by unfold Fit; omega)
              have FAB : Hid (Fit (a + b)) := Lib.hid (by unfold Fit; omega)
              replace g0 : decide (a < 0) = false := decide_eq_false g0
              replace g1 : decide (b < 0) = false := decide_eq_false g1
              replace g2 : decide (1099511627776 < a) = false := decide_eq_false g2
              replace g3 : decide (1099511627776 < b) = false := decide_eq_false g3
              obtain ⟨⟨e2, p2⟩, h2⟩ : ∃ q, countLn l i a = q := ⟨_, rfl⟩
              have R2 := Lib.hid h2
              obtain ⟨⟨e3, p3⟩, h3⟩ : ∃ q, countLn l i (a + b) = q := ⟨_, rfl⟩
              have R3 := Lib.hid h3
              clear h2 h3
              go_wp2_with fail
              refine (pcount_tn A n c l i a _ Tl.out HN.out FA.out).mono ?_
              rw [R2.out]
              rintro e U42 ⟨Af, cf, rfl, of, bU42⟩
              replace Tl := Lib.hid (Tl.out.below bU42)
              replace Ta := Lib.hid (Ta.out.below bU42)
              replace BB := Lib.hid (below3 BB.out bU42)
              have Tf := Lib.hid of.tns
              have Cf := Lib.hid of
              clear of bU42
              go_wp2_with fail
              refine (pcount_tn A n c l i (a + b) _ Tl.out HN.out FAB.out).mono ?_
              rw [R3.out]
              rintro e U43 ⟨Ag, cg, rfl, og, bU43⟩
              replace Tl := Lib.hid (Tl.out.below bU43)
              replace Ta := Lib.hid (Ta.out.below bU43)
              replace Tf := Lib.hid (Tf.out.below bU43)
              replace BB := Lib.hid (below3 BB.out bU43)
              have Tg := Lib.hid og.tns
              have Cg := Lib.hid og
              clear og bU43
              dsimp only
              by_cases he2 : e2 = 0
              · subst he2
                have R4 := Lib.hid ((count_two R2.out HB.out).trans R3.out)
                have HN2 := Lib.hid (show p2.length ≤ 1000 by obtain ⟨-, q, -, -, -, e⟩ := changeLn_inv R2.out; have := HN.out; have := LX.out; rw [e, List.length_set]; omega)
                go_wp2_with fail
                refine (pcount_tn Af _ cf p2 i b _ Tf.out HN2.out FB.out).mono ?_
                rw [R4.out]
                rintro e U64 ⟨Ah, ch, rfl, oh, bU64⟩
                replace Tl := Lib.hid (Tl.out.below bU64)
                replace Ta := Lib.hid (Ta.out.below bU64)
                replace Tf := Lib.hid (Tf.out.below bU64)
                replace Tg := Lib.hid (Tg.out.below bU64)
                replace BB := Lib.hid (below3 BB.out bU64)
                have Th := Lib.hid oh.tns
                have Ch := Lib.hid oh
                clear oh bU64
                dsimp only
                go_wp2_with fail
                refine (psame_tn Ah Ag _ ch _ cg p3 p3 _ Th.out Tg.out).mono ?_
                rw [sameTn_refl]
                rintro e U65 ⟨rfl, bU65⟩
                replace Tl := Lib.hid (Tl.out.below bU65)
                replace Ta := Lib.hid (Ta.out.below bU65)
                replace Tf := Lib.hid (Tf.out.below bU65)
                replace Tg := Lib.hid (Tg.out.below bU65)
                replace Th := Lib.hid (Th.out.below bU65)
                replace BB := Lib.hid (below3 BB.out bU65)
                clear bU65
                go_wp2
                go_ret
                exact ⟨rfl, BB.out⟩
              · have hq := R3.out.symm.trans (count_more R2.out he2 HA.out HB.out)
                injection hq with hq1 hq2
                subst hq1
                have t3 : (e3 != 0) = true := by simpa using he2
                clear he2 hq2
                go_wp2
                go_ret
                exact ⟨rfl, BB.out⟩

end Go.Proofs.Ytkgdfaachpogmaa

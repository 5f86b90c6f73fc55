/-
  The law PollBack: opened and shut, armed and dropped, fired twice: the walk.
-/
import Derived.Test.YtndbaoiabmldgaaLv
namespace Go.Proofs.Ytndbaoiabmldgaa
open Go.RowKit

set_option maxRecDepth 100000 in
set_option maxHeartbeats 8000000 in
theorem lback_any (A : Option Addr) (n c : Nat) (l : List Ds) (i id : Int) (w : World) (hx : Dss w A n c l) (fid : Fit id) :
    Calls Try.prog 6 #[.slice A n c, .int .i64 i, .int .i64 id] w (TrueAns w) := by
  have HX := Lib.hid hx
  have LX := Lib.hid hx.1
  have FID := Lib.hid fid
  have hnc := hx.2.1
  clear hx fid
  go_enter Try.func6, Try.ntmps6
  go_wp2_with fail
  refine (live_any _).mono ?_
  rintro e w0 ⟨rfl, b0⟩
  replace HX := Lib.hid (HX.out.below b0)
  have BB := Lib.hid b0
  clear b0
  by_cases h20 : 20 < n
  · go_wp2_with fail
    go_ret
    exact ⟨rfl, BB.out⟩
  · have h20' : n ≤ 20 := by omega
    go_wp2_with fail
    refine (pcheck_any A n c l _ HX.out).mono ?_
    by_cases hok : pollOk l
    · rw [if_pos hok]
      rintro e w8 ⟨rfl, b0⟩
      replace HX := Lib.hid (HX.out.below b0)
      replace BB := Lib.hid (below3 BB.out b0)
      clear b0 hok h20
      go_wp2_with fail
      obtain ⟨⟨e1, p1⟩, hr1⟩ : ∃ r, openR l i = r := ⟨_, rfl⟩
      obtain ⟨q1, hq1⟩ : ∃ q, p1.length = q := ⟨_, rfl⟩
      have T1 := (show ToldD l i e1 p1 by have := open_told l i; rw [hr1] at this; exact this)
      have HR1 := Lib.hid hr1
      have LQ1 := Lib.hid hq1
      refine (popen_any A n c l i _ HX.out (by omega)).mono ?_
      rw [HR1.out]
      rintro e w1 ⟨A1, c1, rfl, o1, b1⟩
      have od1 := o1.dss
      dsimp only at od1 ⊢
      rw [LQ1.out] at od1 ⊢
      have D1 := Lib.hid od1
      replace HX := Lib.hid (HX.out.below b1)
      replace BB := Lib.hid (below3 BB.out b1)
      clear o1 b1 od1
      by_cases h1 : e1 = 0
      · subst h1
        have hq : q1 ≤ 1000 := by
          rcases T1 with ⟨h, _⟩ | ⟨_, h⟩
          · exact absurd rfl h
          · rw [← hq1, h.len, LX.out]; omega
        have HR7 := Lib.hid (open_shut hr1)
        have LQ7 := LX
        clear hr1 hq1 T1 HR1
        go_wp2_with fail
        refine (pshut_any A1 q1 c1 p1 i _ D1.out hq).mono ?_
        rw [HR7.out]
        rintro e w7 ⟨A7, c7, rfl, o7, b7⟩
        have od7 := o7.dss
        dsimp only at od7 ⊢
        rw [LQ7.out] at od7 ⊢
        have D7 := Lib.hid od7
        replace HX := Lib.hid (HX.out.below b7)
        replace BB := Lib.hid (below3 BB.out b7)
        clear o7 b7 od7
        go_wp2_with fail
        refine (psame_any A7 A n c7 n c l l _ D7.out HX.out).mono ?_
        rw [sameD_refl]
        rintro e v7 ⟨rfl, b⟩
        replace HX := Lib.hid (HX.out.below b)
        replace BB := Lib.hid (below3 BB.out b)
        clear b
        go_wp2_with fail
        clear D1 D7 hq
        obtain ⟨⟨e2, x2, p2⟩, hr2⟩ : ∃ r, armR l i id = r := ⟨_, rfl⟩
        obtain ⟨q2, hq2⟩ : ∃ q, p2.length = q := ⟨_, rfl⟩
        have T2 := (show ToldD l i e2 p2 by have := arm_told l i id; rw [hr2] at this; exact this)
        have HR2 := Lib.hid hr2
        have LQ2 := Lib.hid hq2
        refine (parm_any A n c l i id _ HX.out (by omega) FID.out).mono ?_
        rw [HR2.out]
        rintro e w2 ⟨A2, c2, rfl, o2, b2⟩
        have od2 := o2.dss
        dsimp only at od2 ⊢
        rw [LQ2.out] at od2 ⊢
        have D2 := Lib.hid od2
        replace HX := Lib.hid (HX.out.below b2)
        replace BB := Lib.hid (below3 BB.out b2)
        clear o2 b2 od2
        by_cases h2 : e2 = 0 ∧ x2 = false
        · obtain ⟨rfl, rfl⟩ := h2
          have hq : q2 ≤ 1000 := by
            rcases T2 with ⟨h, _⟩ | ⟨_, h⟩
            · exact absurd rfl h
            · rw [← hq2, h.len, LX.out]; omega
          have HR3 := Lib.hid (arm_back hr2).1
          have HR4 := Lib.hid (arm_back hr2).2
          have LQ3 := LX
          have LQ4 := LX
          clear hr2 hq2 T2 HR2
          go_wp2_with fail
          refine (pdrop_any A2 q2 c2 p2 id _ D2.out hq).mono ?_
          rw [HR3.out]
          rintro e w3 ⟨A3, c3, rfl, o3, b3⟩
          have od3 := o3.dss
          dsimp only at od3 ⊢
          rw [LQ3.out] at od3 ⊢
          have D3 := Lib.hid od3
          replace HX := Lib.hid (HX.out.below b3)
          replace D2 := Lib.hid (D2.out.below b3)
          replace BB := Lib.hid (below3 BB.out b3)
          clear o3 b3 od3
          go_wp2_with fail
          refine (psame_any A3 A n c3 n c l l _ D3.out HX.out).mono ?_
          rw [sameD_refl]
          rintro e v3 ⟨rfl, b⟩
          replace HX := Lib.hid (HX.out.below b)
          replace D2 := Lib.hid (D2.out.below b)
          replace BB := Lib.hid (below3 BB.out b)
          clear b
          go_wp2_with fail
          refine (pfire_any A2 q2 c2 p2 i _ D2.out hq).mono ?_
          rw [HR4.out]
          rintro e w4 ⟨A4, c4, rfl, o4, b4⟩
          have od4 := o4.dss
          dsimp only at od4 ⊢
          rw [LQ4.out] at od4 ⊢
          have D4 := Lib.hid od4
          replace HX := Lib.hid (HX.out.below b4)
          replace BB := Lib.hid (below3 BB.out b4)
          clear o4 b4 od4
          have tid : (id != id) = false := by simp
          go_wp2_with fail
          refine (psame_any A4 A n c4 n c l l _ D4.out HX.out).mono ?_
          rw [sameD_refl]
          rintro e v4 ⟨rfl, b⟩
          replace HX := Lib.hid (HX.out.below b)
          replace BB := Lib.hid (below3 BB.out b)
          clear b
          go_wp2_with fail
          clear D2 D3 D4 hq
          obtain ⟨⟨e5, x5, p5⟩, hr5⟩ : ∃ r, fireR l i = r := ⟨_, rfl⟩
          obtain ⟨q5, hq5⟩ : ∃ q, p5.length = q := ⟨_, rfl⟩
          have T5 := (show ToldD l i e5 p5 by have := fire_told l i; rw [hr5] at this; exact this)
          have HR5 := Lib.hid hr5
          have LQ5 := Lib.hid hq5
          refine (pfire_any A n c l i _ HX.out (by omega)).mono ?_
          rw [HR5.out]
          rintro e w5 ⟨A5, c5, rfl, o5, b5⟩
          have od5 := o5.dss
          dsimp only at od5 ⊢
          rw [LQ5.out] at od5 ⊢
          have D5 := Lib.hid od5
          replace HX := Lib.hid (HX.out.below b5)
          replace BB := Lib.hid (below3 BB.out b5)
          clear o5 b5 od5
          by_cases h5 : e5 = 0 ∧ x5 = -1
          · obtain ⟨rfl, rfl⟩ := h5
            have hq : q5 ≤ 1000 := by
              rcases T5 with ⟨h, _⟩ | ⟨_, h⟩
              · exact absurd rfl h
              · rw [← hq5, h.len, LX.out]; omega
            have HR6 := Lib.hid (fire_twice hr5)
            have LQ6 := LQ5
            clear hr5 hq5 T5 HR5
            go_wp2_with fail
            refine (pfire_any A5 q5 c5 p5 i _ D5.out hq).mono ?_
            rw [HR6.out]
            rintro e w6 ⟨A6, c6, rfl, o6, b6⟩
            have od6 := o6.dss
            dsimp only at od6 ⊢
            rw [LQ6.out] at od6 ⊢
            have D6 := Lib.hid od6
            replace HX := Lib.hid (HX.out.below b6)
            replace D5 := Lib.hid (D5.out.below b6)
            replace BB := Lib.hid (below3 BB.out b6)
            clear o6 b6 od6
            go_wp2_with fail
            refine (psame_any A5 A6 q5 c5 q5 c6 p5 p5 _ D5.out D6.out).mono ?_
            rw [sameD_refl]
            rintro e v6 ⟨rfl, b⟩
            replace BB := Lib.hid (below3 BB.out b)
            clear b
            go_wp2_with fail
            go_ret
            exact ⟨rfl, BB.out⟩
          · have tt : (e5 == 0) = false ∨ ((e5 == 0) = true ∧ (x5 == -1) = false) := by
              by_cases h0 : e5 = 0
              · right
                refine ⟨by simpa using h0, ?_⟩
                have : x5 ≠ -1 := fun q => h5 ⟨h0, q⟩
                simpa using this
              · left
                simpa using h0
            clear hr5 hq5 T5 h5
            rcases tt with t0 | ⟨t0, t1⟩
            · go_wp2_with fail
              go_ret
              exact ⟨rfl, BB.out⟩
            · go_wp2_with fail
              go_ret
              exact ⟨rfl, BB.out⟩
        · have tt : (e2 == 0) = false ∨ ((e2 == 0) = true ∧ x2 = true) := by
            by_cases h0 : e2 = 0
            · right
              refine ⟨by simpa using h0, ?_⟩
              have : x2 ≠ false := fun q => h2 ⟨h0, q⟩
              simpa using this
            · left
              simpa using h0
          clear hr2 hq2 T2 h2
          rcases tt with t0 | ⟨t0, rfl⟩
          · go_wp2_with fail
            clear t0
            obtain ⟨⟨e5, x5, p5⟩, hr5⟩ : ∃ r, fireR l i = r := ⟨_, rfl⟩
            obtain ⟨q5, hq5⟩ : ∃ q, p5.length = q := ⟨_, rfl⟩
            have T5 := (show ToldD l i e5 p5 by have := fire_told l i; rw [hr5] at this; exact this)
            have HR5 := Lib.hid hr5
            have LQ5 := Lib.hid hq5
            refine (pfire_any A n c l i _ HX.out (by omega)).mono ?_
            rw [HR5.out]
            rintro e w5 ⟨A5, c5, rfl, o5, b5⟩
            have od5 := o5.dss
            dsimp only at od5 ⊢
            rw [LQ5.out] at od5 ⊢
            have D5 := Lib.hid od5
            replace HX := Lib.hid (HX.out.below b5)
            replace BB := Lib.hid (below3 BB.out b5)
            clear o5 b5 od5
            by_cases h5 : e5 = 0 ∧ x5 = -1
            · obtain ⟨rfl, rfl⟩ := h5
              have hq : q5 ≤ 1000 := by
                rcases T5 with ⟨h, _⟩ | ⟨_, h⟩
                · exact absurd rfl h
                · rw [← hq5, h.len, LX.out]; omega
              have HR6 := Lib.hid (fire_twice hr5)
              have LQ6 := LQ5
              clear hr5 hq5 T5 HR5
              go_wp2_with fail
              refine (pfire_any A5 q5 c5 p5 i _ D5.out hq).mono ?_
              rw [HR6.out]
              rintro e w6 ⟨A6, c6, rfl, o6, b6⟩
              have od6 := o6.dss
              dsimp only at od6 ⊢
              rw [LQ6.out] at od6 ⊢
              have D6 := Lib.hid od6
              replace HX := Lib.hid (HX.out.below b6)
              replace D5 := Lib.hid (D5.out.below b6)
              replace BB := Lib.hid (below3 BB.out b6)
              clear o6 b6 od6
              go_wp2_with fail
              refine (psame_any A5 A6 q5 c5 q5 c6 p5 p5 _ D5.out D6.out).mono ?_
              rw [sameD_refl]
              rintro e v6 ⟨rfl, b⟩
              replace BB := Lib.hid (below3 BB.out b)
              clear b
              go_wp2_with fail
              go_ret
              exact ⟨rfl, BB.out⟩
            · have tt : (e5 == 0) = false ∨ ((e5 == 0) = true ∧ (x5 == -1) = false) := by
                by_cases h0 : e5 = 0
                · right
                  refine ⟨by simpa using h0, ?_⟩
                  have : x5 ≠ -1 := fun q => h5 ⟨h0, q⟩
                  simpa using this
                · left
                  simpa using h0
              clear hr5 hq5 T5 h5
              rcases tt with t0 | ⟨t0, t1⟩
              · go_wp2_with fail
                go_ret
                exact ⟨rfl, BB.out⟩
              · go_wp2_with fail
                go_ret
                exact ⟨rfl, BB.out⟩
          · go_wp2_with fail
            clear t0
            obtain ⟨⟨e5, x5, p5⟩, hr5⟩ : ∃ r, fireR l i = r := ⟨_, rfl⟩
            obtain ⟨q5, hq5⟩ : ∃ q, p5.length = q := ⟨_, rfl⟩
            have T5 := (show ToldD l i e5 p5 by have := fire_told l i; rw [hr5] at this; exact this)
            have HR5 := Lib.hid hr5
            have LQ5 := Lib.hid hq5
            refine (pfire_any A n c l i _ HX.out (by omega)).mono ?_
            rw [HR5.out]
            rintro e w5 ⟨A5, c5, rfl, o5, b5⟩
            have od5 := o5.dss
            dsimp only at od5 ⊢
            rw [LQ5.out] at od5 ⊢
            have D5 := Lib.hid od5
            replace HX := Lib.hid (HX.out.below b5)
            replace BB := Lib.hid (below3 BB.out b5)
            clear o5 b5 od5
            by_cases h5 : e5 = 0 ∧ x5 = -1
            · obtain ⟨rfl, rfl⟩ := h5
              have hq : q5 ≤ 1000 := by
                rcases T5 with ⟨h, _⟩ | ⟨_, h⟩
                · exact absurd rfl h
                · rw [← hq5, h.len, LX.out]; omega
              have HR6 := Lib.hid (fire_twice hr5)
              have LQ6 := LQ5
              clear hr5 hq5 T5 HR5
              go_wp2_with fail
              refine (pfire_any A5 q5 c5 p5 i _ D5.out hq).mono ?_
              rw [HR6.out]
              rintro e w6 ⟨A6, c6, rfl, o6, b6⟩
              have od6 := o6.dss
              dsimp only at od6 ⊢
              rw [LQ6.out] at od6 ⊢
              have D6 := Lib.hid od6
              replace HX := Lib.hid (HX.out.below b6)
              replace D5 := Lib.hid (D5.out.below b6)
              replace BB := Lib.hid (below3 BB.out b6)
              clear o6 b6 od6
              go_wp2_with fail
              refine (psame_any A5 A6 q5 c5 q5 c6 p5 p5 _ D5.out D6.out).mono ?_
              rw [sameD_refl]
              rintro e v6 ⟨rfl, b⟩
              replace BB := Lib.hid (below3 BB.out b)
              clear b
              go_wp2_with fail
              go_ret
              exact ⟨rfl, BB.out⟩
            · have tt : (e5 == 0) = false ∨ ((e5 == 0) = true ∧ (x5 == -1) = false) := by
                by_cases h0 : e5 = 0
                · right
                  refine ⟨by simpa using h0, ?_⟩
                  have : x5 ≠ -1 := fun q => h5 ⟨h0, q⟩
                  simpa using this
                · left
                  simpa using h0
              clear hr5 hq5 T5 h5
              rcases tt with t0 | ⟨t0, t1⟩
              · go_wp2_with fail
                go_ret
                exact ⟨rfl, BB.out⟩
              · go_wp2_with fail
                go_ret
                exact ⟨rfl, BB.out⟩
      · have t0 : (e1 == 0) = false := by simpa using h1
        clear hr1 hq1 T1 h1
        go_wp2_with fail
        clear t0
        obtain ⟨⟨e2, x2, p2⟩, hr2⟩ : ∃ r, armR l i id = r := ⟨_, rfl⟩
        obtain ⟨q2, hq2⟩ : ∃ q, p2.length = q := ⟨_, rfl⟩
        have T2 := (show ToldD l i e2 p2 by have := arm_told l i id; rw [hr2] at this; exact this)
        have HR2 := Lib.hid hr2
        have LQ2 := Lib.hid hq2
        refine (parm_any A n c l i id _ HX.out (by omega) FID.out).mono ?_
        rw [HR2.out]
        rintro e w2 ⟨A2, c2, rfl, o2, b2⟩
        have od2 := o2.dss
        dsimp only at od2 ⊢
        rw [LQ2.out] at od2 ⊢
        have D2 := Lib.hid od2
        replace HX := Lib.hid (HX.out.below b2)
        replace BB := Lib.hid (below3 BB.out b2)
        clear o2 b2 od2
        by_cases h2 : e2 = 0 ∧ x2 = false
        · obtain ⟨rfl, rfl⟩ := h2
          have hq : q2 ≤ 1000 := by
            rcases T2 with ⟨h, _⟩ | ⟨_, h⟩
            · exact absurd rfl h
            · rw [← hq2, h.len, LX.out]; omega
          have HR3 := Lib.hid (arm_back hr2).1
          have HR4 := Lib.hid (arm_back hr2).2
          have LQ3 := LX
          have LQ4 := LX
          clear hr2 hq2 T2 HR2
          go_wp2_with fail
          refine (pdrop_any A2 q2 c2 p2 id _ D2.out hq).mono ?_
          rw [HR3.out]
          rintro e w3 ⟨A3, c3, rfl, o3, b3⟩
          have od3 := o3.dss
          dsimp only at od3 ⊢
          rw [LQ3.out] at od3 ⊢
          have D3 := Lib.hid od3
          replace HX := Lib.hid (HX.out.below b3)
          replace D2 := Lib.hid (D2.out.below b3)
          replace BB := Lib.hid (below3 BB.out b3)
          clear o3 b3 od3
          go_wp2_with fail
          refine (psame_any A3 A n c3 n c l l _ D3.out HX.out).mono ?_
          rw [sameD_refl]
          rintro e v3 ⟨rfl, b⟩
          replace HX := Lib.hid (HX.out.below b)
          replace D2 := Lib.hid (D2.out.below b)
          replace BB := Lib.hid (below3 BB.out b)
          clear b
          go_wp2_with fail
          refine (pfire_any A2 q2 c2 p2 i _ D2.out hq).mono ?_
          rw [HR4.out]
          rintro e w4 ⟨A4, c4, rfl, o4, b4⟩
          have od4 := o4.dss
          dsimp only at od4 ⊢
          rw [LQ4.out] at od4 ⊢
          have D4 := Lib.hid od4
          replace HX := Lib.hid (HX.out.below b4)
          replace BB := Lib.hid (below3 BB.out b4)
          clear o4 b4 od4
          have tid : (id != id) = false := by simp
          go_wp2_with fail
          refine (psame_any A4 A n c4 n c l l _ D4.out HX.out).mono ?_
          rw [sameD_refl]
          rintro e v4 ⟨rfl, b⟩
          replace HX := Lib.hid (HX.out.below b)
          replace BB := Lib.hid (below3 BB.out b)
          clear b
          go_wp2_with fail
          clear D2 D3 D4 hq
          obtain ⟨⟨e5, x5, p5⟩, hr5⟩ : ∃ r, fireR l i = r := ⟨_, rfl⟩
          obtain ⟨q5, hq5⟩ : ∃ q, p5.length = q := ⟨_, rfl⟩
          have T5 := (show ToldD l i e5 p5 by have := fire_told l i; rw [hr5] at this; exact this)
          have HR5 := Lib.hid hr5
          have LQ5 := Lib.hid hq5
          refine (pfire_any A n c l i _ HX.out (by omega)).mono ?_
          rw [HR5.out]
          rintro e w5 ⟨A5, c5, rfl, o5, b5⟩
          have od5 := o5.dss
          dsimp only at od5 ⊢
          rw [LQ5.out] at od5 ⊢
          have D5 := Lib.hid od5
          replace HX := Lib.hid (HX.out.below b5)
          replace BB := Lib.hid (below3 BB.out b5)
          clear o5 b5 od5
          by_cases h5 : e5 = 0 ∧ x5 = -1
          · obtain ⟨rfl, rfl⟩ := h5
            have hq : q5 ≤ 1000 := by
              rcases T5 with ⟨h, _⟩ | ⟨_, h⟩
              · exact absurd rfl h
              · rw [← hq5, h.len, LX.out]; omega
            have HR6 := Lib.hid (fire_twice hr5)
            have LQ6 := LQ5
            clear hr5 hq5 T5 HR5
            go_wp2_with fail
            refine (pfire_any A5 q5 c5 p5 i _ D5.out hq).mono ?_
            rw [HR6.out]
            rintro e w6 ⟨A6, c6, rfl, o6, b6⟩
            have od6 := o6.dss
            dsimp only at od6 ⊢
            rw [LQ6.out] at od6 ⊢
            have D6 := Lib.hid od6
            replace HX := Lib.hid (HX.out.below b6)
            replace D5 := Lib.hid (D5.out.below b6)
            replace BB := Lib.hid (below3 BB.out b6)
            clear o6 b6 od6
            go_wp2_with fail
            refine (psame_any A5 A6 q5 c5 q5 c6 p5 p5 _ D5.out D6.out).mono ?_
            rw [sameD_refl]
            rintro e v6 ⟨rfl, b⟩
            replace BB := Lib.hid (below3 BB.out b)
            clear b
            go_wp2_with fail
            go_ret
            exact ⟨rfl, BB.out⟩
          · have tt : (e5 == 0) = false ∨ ((e5 == 0) = true ∧ (x5 == -1) = false) := by
              by_cases h0 : e5 = 0
              · right
                refine ⟨by simpa using h0, ?_⟩
                have : x5 ≠ -1 := fun q => h5 ⟨h0, q⟩
                simpa using this
              · left
                simpa using h0
            clear hr5 hq5 T5 h5
            rcases tt with t0 | ⟨t0, t1⟩
            · go_wp2_with fail
              go_ret
              exact ⟨rfl, BB.out⟩
            · go_wp2_with fail
              go_ret
              exact ⟨rfl, BB.out⟩
        · have tt : (e2 == 0) = false ∨ ((e2 == 0) = true ∧ x2 = true) := by
            by_cases h0 : e2 = 0
            · right
              refine ⟨by simpa using h0, ?_⟩
              have : x2 ≠ false := fun q => h2 ⟨h0, q⟩
              simpa using this
            · left
              simpa using h0
          clear hr2 hq2 T2 h2
          rcases tt with t0 | ⟨t0, rfl⟩
          · go_wp2_with fail
            clear t0
            obtain ⟨⟨e5, x5, p5⟩, hr5⟩ : ∃ r, fireR l i = r := ⟨_, rfl⟩
            obtain ⟨q5, hq5⟩ : ∃ q, p5.length = q := ⟨_, rfl⟩
            have T5 := (show ToldD l i e5 p5 by have := fire_told l i; rw [hr5] at this; exact this)
            have HR5 := Lib.hid hr5
            have LQ5 := Lib.hid hq5
            refine (pfire_any A n c l i _ HX.out (by omega)).mono ?_
            rw [HR5.out]
            rintro e w5 ⟨A5, c5, rfl, o5, b5⟩
            have od5 := o5.dss
            dsimp only at od5 ⊢
            rw [LQ5.out] at od5 ⊢
            have D5 := Lib.hid od5
            replace HX := Lib.hid (HX.out.below b5)
            replace BB := Lib.hid (below3 BB.out b5)
            clear o5 b5 od5
            by_cases h5 : e5 = 0 ∧ x5 = -1
            · obtain ⟨rfl, rfl⟩ := h5
              have hq : q5 ≤ 1000 := by
                rcases T5 with ⟨h, _⟩ | ⟨_, h⟩
                · exact absurd rfl h
                · rw [← hq5, h.len, LX.out]; omega
              have HR6 := Lib.hid (fire_twice hr5)
              have LQ6 := LQ5
              clear hr5 hq5 T5 HR5
              go_wp2_with fail
              refine (pfire_any A5 q5 c5 p5 i _ D5.out hq).mono ?_
              rw [HR6.out]
              rintro e w6 ⟨A6, c6, rfl, o6, b6⟩
              have od6 := o6.dss
              dsimp only at od6 ⊢
              rw [LQ6.out] at od6 ⊢
              have D6 := Lib.hid od6
              replace HX := Lib.hid (HX.out.below b6)
              replace D5 := Lib.hid (D5.out.below b6)
              replace BB := Lib.hid (below3 BB.out b6)
              clear o6 b6 od6
              go_wp2_with fail
              refine (psame_any A5 A6 q5 c5 q5 c6 p5 p5 _ D5.out D6.out).mono ?_
              rw [sameD_refl]
              rintro e v6 ⟨rfl, b⟩
              replace BB := Lib.hid (below3 BB.out b)
              clear b
              go_wp2_with fail
              go_ret
              exact ⟨rfl, BB.out⟩
            · have tt : (e5 == 0) = false ∨ ((e5 == 0) = true ∧ (x5 == -1) = false) := by
                by_cases h0 : e5 = 0
                · right
                  refine ⟨by simpa using h0, ?_⟩
                  have : x5 ≠ -1 := fun q => h5 ⟨h0, q⟩
                  simpa using this
                · left
                  simpa using h0
              clear hr5 hq5 T5 h5
              rcases tt with t0 | ⟨t0, t1⟩
              · go_wp2_with fail
                go_ret
                exact ⟨rfl, BB.out⟩
              · go_wp2_with fail
                go_ret
                exact ⟨rfl, BB.out⟩
          · go_wp2_with fail
            clear t0
            obtain ⟨⟨e5, x5, p5⟩, hr5⟩ : ∃ r, fireR l i = r := ⟨_, rfl⟩
            obtain ⟨q5, hq5⟩ : ∃ q, p5.length = q := ⟨_, rfl⟩
            have T5 := (show ToldD l i e5 p5 by have := fire_told l i; rw [hr5] at this; exact this)
            have HR5 := Lib.hid hr5
            have LQ5 := Lib.hid hq5
            refine (pfire_any A n c l i _ HX.out (by omega)).mono ?_
            rw [HR5.out]
            rintro e w5 ⟨A5, c5, rfl, o5, b5⟩
            have od5 := o5.dss
            dsimp only at od5 ⊢
            rw [LQ5.out] at od5 ⊢
            have D5 := Lib.hid od5
            replace HX := Lib.hid (HX.out.below b5)
            replace BB := Lib.hid (below3 BB.out b5)
            clear o5 b5 od5
            by_cases h5 : e5 = 0 ∧ x5 = -1
            · obtain ⟨rfl, rfl⟩ := h5
              have hq : q5 ≤ 1000 := by
                rcases T5 with ⟨h, _⟩ | ⟨_, h⟩
                · exact absurd rfl h
                · rw [← hq5, h.len, LX.out]; omega
              have HR6 := Lib.hid (fire_twice hr5)
              have LQ6 := LQ5
              clear hr5 hq5 T5 HR5
              go_wp2_with fail
              refine (pfire_any A5 q5 c5 p5 i _ D5.out hq).mono ?_
              rw [HR6.out]
              rintro e w6 ⟨A6, c6, rfl, o6, b6⟩
              have od6 := o6.dss
              dsimp only at od6 ⊢
              rw [LQ6.out] at od6 ⊢
              have D6 := Lib.hid od6
              replace HX := Lib.hid (HX.out.below b6)
              replace D5 := Lib.hid (D5.out.below b6)
              replace BB := Lib.hid (below3 BB.out b6)
              clear o6 b6 od6
              go_wp2_with fail
              refine (psame_any A5 A6 q5 c5 q5 c6 p5 p5 _ D5.out D6.out).mono ?_
              rw [sameD_refl]
              rintro e v6 ⟨rfl, b⟩
              replace BB := Lib.hid (below3 BB.out b)
              clear b
              go_wp2_with fail
              go_ret
              exact ⟨rfl, BB.out⟩
            · have tt : (e5 == 0) = false ∨ ((e5 == 0) = true ∧ (x5 == -1) = false) := by
                by_cases h0 : e5 = 0
                · right
                  refine ⟨by simpa using h0, ?_⟩
                  have : x5 ≠ -1 := fun q => h5 ⟨h0, q⟩
                  simpa using this
                · left
                  simpa using h0
              clear hr5 hq5 T5 h5
              rcases tt with t0 | ⟨t0, t1⟩
              · go_wp2_with fail
                go_ret
                exact ⟨rfl, BB.out⟩
              · go_wp2_with fail
                go_ret
                exact ⟨rfl, BB.out⟩
    · rw [if_neg hok]
      rintro e w8 ⟨rfl, b0⟩
      replace BB := Lib.hid (below3 BB.out b0)
      clear b0
      go_wp2_with fail
      go_ret
      exact ⟨rfl, BB.out⟩

end Go.Proofs.Ytndbaoiabmldgaa

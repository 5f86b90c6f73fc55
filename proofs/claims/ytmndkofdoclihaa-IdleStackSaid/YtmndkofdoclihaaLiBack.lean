/-
  The law IdleBack of layer 17, walked.
-/
import Derived.Test.YtmndkofdoclihaaWol
import Derived.Test.YtmndkofdoclihaaWox
namespace Go.Proofs.Ytmndkofdoclihaa
open Go.RowKit

theorem sameWo_refl (is st : List Int) : sameWo is st is st = true := by simp [sameWo, sameB_refl]

set_option maxRecDepth 100000 in
set_option maxHeartbeats 8000000 in
theorem idleback_any (A B : Option Addr) (n a m b : Nat) (is st : List Int) (i : Int) (w : World) (hi : Ints w A n is) (hs : Ints w B m st) :
    Calls Try.prog 4 #[.agg #[.slice A n a, .slice B m b], .int .i64 i] w (RetB (.bool true) w) := by
  have hn0 := hi.2.1
  have hm0 := hs.2.1
  by_cases g0 : 100 < n
  · have t0 : decide (100 < (n : Int)) = true := decide_eq_true (by omega)
    clear hi hs
    obtain ⟨kb0, hb0⟩ := lay1 w #[.slice A n a, .slice B m b] 24
    obtain ⟨V, hV⟩ : ∃ V, w.alloc (.cells #[.slice A n a, .slice B m b] 24) = V := ⟨_, rfl⟩
    rw [hV] at hb0 kb0
    have HV := Lib.hid hV
    have BB := Lib.hid hb0
    have KD := Lib.hid kb0
    have HBD : Hid (w.heap.size ≤ w.heap.size) := Lib.hid (by omega)
    clear hV hb0 kb0
    go_enter Try.func4, Try.ntmps4
    go_upto_region 1 with fail
    rw [HV.out]
    clear HV
    go_wp2_with fail
    refine (live_wo _).mono ?_
    try dsimp only
    rintro e U1 ⟨rfl, bU1⟩
    replace KD := Lib.hid (KD.out.below bU1 KD.out.lt)
    replace BB := Lib.hid (below3 BB.out bU1)
    clear bU1
    obtain ⟨qD_0, qD_1⟩ := KD.out.c2w
    have lD := KD.out.lt
    go_wp2_with fail
    go_ret
    exact ⟨rfl, BB.out⟩
  · by_cases hok : okWo is st
    · by_cases hann : inWo is st i ∧ nth is i.toNat ≤ 1
      · obtain ⟨j, rfl⟩ := Int.eq_ofNat_of_zero_le hann.1.2.1
        have hjl : j < is.length := by have := hann.1.2.2; omega
        have hjn : j < n := by have := hi.1; omega
        have hz1 : nth is j ≤ 1 := by have := hann.2; rwa [Int.toNat_natCast] at this
        have f4 := fours_at hok.2.1 hjl
        have hjst : (j : Int) ∉ st := no_stack hok (by omega)
        have ok1 := ok_ann hok hjl hz1
        have hA : annWo is st (j : Int) = (is.set j 2, st ++ [(j : Int)], 0) := by unfold annWo; rw [if_pos hann.1, if_pos hann.2, Int.toNat_natCast]
        have hn1 : nth (is.set j 2) j = 2 := by rw [nth_setW hjl, if_pos rfl]
        have hin1 : inWo (is.set j 2) (st ++ [(j : Int)]) (j : Int) := ⟨ok1, by omega, by simp; omega⟩
        have hF : foundWo (is.set j 2) (st ++ [(j : Int)]) (j : Int) = (is.set j 0, st, 0) := by unfold foundWo; rw [if_pos hin1, Int.toNat_natCast, if_neg (by rw [hn1]; decide), set_set_W, but_app st hjst]
        have hlast : nth (st ++ [(j : Int)]) ((st ++ [(j : Int)]).length - 1) = (j : Int) := by rw [nth_get (by simp)]; simp
        have hW : wakeWo (is.set j 2) (st ++ [(j : Int)]) = ((j : Int), is.set j 0, st, 0) := by unfold wakeWo; rw [if_pos ok1, if_neg (by simp), hlast, Int.toNat_natCast, set_set_W, but_app st hjst]
        obtain ⟨bS, o, rfl, hb, c0⟩ := hi.at_bt hjn
        obtain ⟨z, hz⟩ : ∃ z, nth is j = z := ⟨_, rfl⟩
        rw [hz] at c0
        have hsame : z = 0 → is.set j 0 = is := fun e => by have := set_same_W (l := is) (k := j); rw [hz, e] at this; exact this
        obtain ⟨i2, h2⟩ : ∃ l, is.set j 0 = l := ⟨_, rfl⟩
        obtain ⟨s1, h3⟩ : ∃ l, st ++ [(j : Int)] = l := ⟨_, rfl⟩
        obtain ⟨i1, h1⟩ : ∃ l, is.set j 2 = l := ⟨_, rfl⟩
        have hpk : parkWo i1 s1 (j : Int) = ([], [], 9) ∨ ∃ i3, parkWo i1 s1 (j : Int) = (i3, s1, 0) ∧ foundWo i3 s1 (j : Int) = ([], [], 9) ∧ wakeWo i3 s1 = ((j : Int), i2, st, 0) := by
          rw [← h1, ← h2, ← h3]
          by_cases hfit : fitsWo ((is.set j 2).set j 3)
          · right
            have ok3 := ok_park ok1 (by simpa using hjl) hn1 hfit
            have hn3 : nth ((is.set j 2).set j 3) j = 3 := by rw [nth_setW (by simpa using hjl), if_pos rfl]
            refine ⟨(is.set j 2).set j 3, ?_, ?_, ?_⟩
            · unfold parkWo; rw [if_pos hin1, Int.toNat_natCast, if_pos ⟨hn1, hfit⟩]
            · unfold foundWo; rw [if_pos ⟨ok3, by omega, by simp; omega⟩, Int.toNat_natCast, if_pos hn3]
            · unfold wakeWo; rw [if_pos ok3, if_neg (by simp), hlast, Int.toNat_natCast, set_set_W, set_set_W, but_app st hjst]
          · left
            unfold parkWo
            rw [if_pos hin1, Int.toNat_natCast, if_neg (fun q => hfit q.2)]
        rw [h2] at hF hW hsame
        rw [h3] at hA hF hW
        rw [h1] at hA hF hW
        have HA := Lib.hid hA
        have HF := Lib.hid hF
        have HW0 := Lib.hid hW
        have HS := Lib.hid hsame
        have HIN : Hid (is.length = n) := Lib.hid hi.1
        have hcn : (j : Int) < n := by omega
        have HI := Lib.hid hi
        have HST := Lib.hid hs
        rcases hpk with hpk | hpk
        · by_cases hz0 : z = 0
          · have HP := Lib.hid hpk
            clear hpk
            have HSM : Hid (i2 = is) := Lib.hid (hsame hz0)
            have tz : (z == 0) = true := by simp; omega
            clear hz0
            have t0 : decide (100 < (n : Int)) = false := decide_eq_false (by omega)
            have HK := Lib.hid fun U hU => check_wo (some ⟨bS, o, none⟩) B n a m b is st U (hi.below hU) (hs.below hU)
            have HE : Hid (chkWo is st = 0) := Lib.hid (if_pos hok)
            have HQ := Lib.hid fun U hU => ann_wo (some ⟨bS, o, none⟩) B n a m b is st (j : Int) U (hi.below hU) (hs.below hU)
            clear hi hs hok hann hA hF hW hsame hn1 hin1 ok1 hlast h1 h2 h3 f4 hz1 hjst hz
            obtain ⟨kb0, hb0⟩ := lay1 w #[.slice (some ⟨bS, o, none⟩) n a, .slice B m b] 24
            obtain ⟨V, hV⟩ : ∃ V, w.alloc (.cells #[.slice (some ⟨bS, o, none⟩) n a, .slice B m b] 24) = V := ⟨_, rfl⟩
            rw [hV] at hb0 kb0
            have HV := Lib.hid hV
            have BB := Lib.hid hb0
            have KD := Lib.hid kb0
            have HBD : Hid (w.heap.size ≤ w.heap.size) := Lib.hid (by omega)
            clear hV hb0 kb0
            go_enter Try.func4, Try.ntmps4
            go_upto_region 1 with fail
            rw [HV.out]
            clear HV
            go_wp2_with fail
            refine (live_wo _).mono ?_
            try dsimp only
            rintro e U1 ⟨rfl, bU1⟩
            replace KD := Lib.hid (KD.out.below bU1 KD.out.lt)
            replace BB := Lib.hid (below3 BB.out bU1)
            clear bU1
            obtain ⟨qD_0, qD_1⟩ := KD.out.c2w
            have lD := KD.out.lt
            go_wp2_with fail
            refine (HK.out _ BB.out).mono ?_
            rw [HE.out]
            try dsimp only
            rintro e U2 ⟨rfl, bU2⟩
            clear qD_0 qD_1 lD
            replace KD := Lib.hid (KD.out.below bU2 KD.out.lt)
            replace BB := Lib.hid (below3 BB.out bU2)
            clear bU2
            clear HK HE
            obtain ⟨qD_0, qD_1⟩ := KD.out.c2w
            have lD := KD.out.lt
            go_wp2_with fail
            refine (HQ.out _ BB.out).mono ?_
            rw [HA.out]
            try dsimp only
            rintro e U3 ⟨Aa, aa, Ba, ba, he, ow, bU3⟩
            try dsimp only at he ow
            subst he
            clear qD_0 qD_1 lD
            have LD_a : Hid (w.heap.size < U2.heap.size) := Lib.hid KD.out.lt
            have HBBa : Hid (w.heap.size ≤ U2.heap.size) := Lib.hid BB.out.size
            have HSZa : Hid (U2.heap.size ≤ U3.heap.size) := Lib.hid bU3.size
            have Ra := Lib.hid ow
            clear ow
            replace KD := Lib.hid (KD.out.below bU3 KD.out.lt)
            replace BB := Lib.hid (below3 BB.out bU3)
            clear bU3
            have kt := Bk.new U3 24 #[.slice Aa i1.length aa, .slice Ba s1.length ba]
            have ba := (Below.refl U3.heap.size U3).alloc (Nat.le_refl _) (.cells #[.slice Aa i1.length aa, .slice Ba s1.length ba] 24)
            have oD := KD.out.lt
            have hgb := BB.out.size
            replace KD := Lib.hid (KD.out.below ba KD.out.lt)
            replace Ra := Lib.hid (Ra.out.below ba)
            replace BB := Lib.hid (below3 BB.out ba)
            clear ba
            obtain ⟨W4, hW⟩ : ∃ W, U3.alloc (.cells #[.slice Aa i1.length aa, .slice Ba s1.length ba] 24) = W := ⟨_, rfl⟩
            obtain ⟨gN, hg⟩ : ∃ g, U3.heap.size = g := ⟨_, rfl⟩
            rw [hW] at kt BB KD Ra
            rw [hg] at kt hgb oD HSZa
            have HW := Lib.hid hW
            have HG := Lib.hid hg
            have KN := Lib.hid kt
            have HBN := Lib.hid hgb
            have OD_N := Lib.hid oD
            clear hW hg kt hgb oD
            go_upto_region 7 with fail
            rw [HW.out]
            try rw [HG.out]
            clear HW HG
            clear HQ
            obtain ⟨qN_0, qN_1⟩ := KN.out.c2w
            have lN := KN.out.lt
            go_upto_region 9 with fail
            clear qN_0 qN_1 lN
            obtain ⟨qN_0, qN_1⟩ := KN.out.c2w
            have lN := KN.out.lt
            go_wp2_with fail
            refine (found_wo Aa Ba i1.length aa s1.length ba i1 s1 (j : Int) _ Ra.out.i.ints Ra.out.s.ints).mono ?_
            rw [HF.out]
            try dsimp only
            rintro e U5 ⟨Ab, ab, Bb, bb, he, ow, bU5⟩
            try dsimp only at he ow
            subst he
            clear qN_0 qN_1 lN
            have LD_b : Hid (w.heap.size < W4.heap.size) := Lib.hid KD.out.lt
            have LN_b : Hid (gN < W4.heap.size) := Lib.hid KN.out.lt
            have HBBb : Hid (w.heap.size ≤ W4.heap.size) := Lib.hid BB.out.size
            have HSZb : Hid (W4.heap.size ≤ U5.heap.size) := Lib.hid bU5.size
            have Rb := Lib.hid ow
            clear ow
            replace KD := Lib.hid (KD.out.below bU5 KD.out.lt)
            replace KN := Lib.hid (KN.out.below bU5 KN.out.lt)
            replace Ra := Lib.hid (Ra.out.below bU5)
            replace BB := Lib.hid (below3 BB.out bU5)
            clear bU5
            have kt := Bk.new U5 24 #[.slice Ab i2.length ab, .slice Bb st.length bb]
            have ba := (Below.refl U5.heap.size U5).alloc (Nat.le_refl _) (.cells #[.slice Ab i2.length ab, .slice Bb st.length bb] 24)
            have oD := KD.out.lt
            have oN := KN.out.lt
            have hgb := BB.out.size
            replace KD := Lib.hid (KD.out.below ba KD.out.lt)
            replace KN := Lib.hid (KN.out.below ba KN.out.lt)
            replace Ra := Lib.hid (Ra.out.below ba)
            replace Rb := Lib.hid (Rb.out.below ba)
            replace BB := Lib.hid (below3 BB.out ba)
            clear ba
            obtain ⟨W6, hW⟩ : ∃ W, U5.alloc (.cells #[.slice Ab i2.length ab, .slice Bb st.length bb] 24) = W := ⟨_, rfl⟩
            obtain ⟨gP, hg⟩ : ∃ g, U5.heap.size = g := ⟨_, rfl⟩
            rw [hW] at kt BB KD KN Ra Rb
            rw [hg] at kt hgb oD oN HSZb
            have HW := Lib.hid hW
            have HG := Lib.hid hg
            have KP := Lib.hid kt
            have HBP := Lib.hid hgb
            have OD_P := Lib.hid oD
            have ON_P := Lib.hid oN
            clear hW hg kt hgb oD oN
            go_upto_region 10 with fail
            rw [HW.out]
            try rw [HG.out]
            clear HW HG
            obtain ⟨qN_0, qN_1⟩ := KN.out.c2w
            have lN := KN.out.lt
            go_wp2_with fail
            refine (wake_wo Aa Ba i1.length aa s1.length ba i1 s1 _ Ra.out.i.ints Ra.out.s.ints).mono ?_
            rw [HW0.out]
            try dsimp only
            rintro e U7 ⟨Ac, ac, Bc, bc, he, ow, bU7⟩
            try dsimp only at he ow
            subst he
            clear qN_0 qN_1 lN
            have LD_c : Hid (w.heap.size < W6.heap.size) := Lib.hid KD.out.lt
            have LN_c : Hid (gN < W6.heap.size) := Lib.hid KN.out.lt
            have LP_c : Hid (gP < W6.heap.size) := Lib.hid KP.out.lt
            have HBBc : Hid (w.heap.size ≤ W6.heap.size) := Lib.hid BB.out.size
            have HSZc : Hid (W6.heap.size ≤ U7.heap.size) := Lib.hid bU7.size
            have Rc := Lib.hid ow
            clear ow
            replace KD := Lib.hid (KD.out.below bU7 KD.out.lt)
            replace KN := Lib.hid (KN.out.below bU7 KN.out.lt)
            replace KP := Lib.hid (KP.out.below bU7 KP.out.lt)
            replace Ra := Lib.hid (Ra.out.below bU7)
            replace Rb := Lib.hid (Rb.out.below bU7)
            replace BB := Lib.hid (below3 BB.out bU7)
            clear bU7
            have kt := Bk.new U7 24 #[.slice Ac i2.length ac, .slice Bc st.length bc]
            have ba := (Below.refl U7.heap.size U7).alloc (Nat.le_refl _) (.cells #[.slice Ac i2.length ac, .slice Bc st.length bc] 24)
            have oD := KD.out.lt
            have oN := KN.out.lt
            have oP := KP.out.lt
            have hgb := BB.out.size
            replace KD := Lib.hid (KD.out.below ba KD.out.lt)
            replace KN := Lib.hid (KN.out.below ba KN.out.lt)
            replace KP := Lib.hid (KP.out.below ba KP.out.lt)
            replace Ra := Lib.hid (Ra.out.below ba)
            replace Rb := Lib.hid (Rb.out.below ba)
            replace Rc := Lib.hid (Rc.out.below ba)
            replace BB := Lib.hid (below3 BB.out ba)
            clear ba
            obtain ⟨W8, hW⟩ : ∃ W, U7.alloc (.cells #[.slice Ac i2.length ac, .slice Bc st.length bc] 24) = W := ⟨_, rfl⟩
            obtain ⟨gQ, hg⟩ : ∃ g, U7.heap.size = g := ⟨_, rfl⟩
            rw [hW] at kt BB KD KN KP Ra Rb Rc
            rw [hg] at kt hgb oD oN oP HSZc
            have HW := Lib.hid hW
            have HG := Lib.hid hg
            have KQ := Lib.hid kt
            have HBQ := Lib.hid hgb
            have OD_Q := Lib.hid oD
            have ON_Q := Lib.hid oN
            have OP_Q := Lib.hid oP
            clear hW hg kt hgb oD oN oP
            go_upto_region 11 with fail
            rw [HW.out]
            try rw [HG.out]
            clear HW HG
            obtain ⟨qP_0, qP_1⟩ := KP.out.c2w
            have lP := KP.out.lt
            obtain ⟨qQ_0, qQ_1⟩ := KQ.out.c2w
            have lQ := KQ.out.lt
            obtain ⟨qD_0, qD_1⟩ := KD.out.c2w
            have lD := KD.out.lt
            go_wp2_with fail
            refine (same_wo Ab Bb Ac Bc i2.length ab st.length bb i2.length ac st.length bc i2 st i2 st _ Rb.out.i.ints Rb.out.s.ints Rc.out.i.ints Rc.out.s.ints).mono ?_
            rw [sameWo_refl]
            try dsimp only
            rintro e U9 ⟨rfl, bU9⟩
            clear qP_0 qP_1 lP qQ_0 qQ_1 lQ qD_0 qD_1 lD
            replace KD := Lib.hid (KD.out.below bU9 KD.out.lt)
            replace KN := Lib.hid (KN.out.below bU9 KN.out.lt)
            replace KP := Lib.hid (KP.out.below bU9 KP.out.lt)
            replace KQ := Lib.hid (KQ.out.below bU9 KQ.out.lt)
            replace Ra := Lib.hid (Ra.out.below bU9)
            replace Rb := Lib.hid (Rb.out.below bU9)
            replace Rc := Lib.hid (Rc.out.below bU9)
            replace BB := Lib.hid (below3 BB.out bU9)
            clear bU9
            obtain ⟨qD_0, qD_1⟩ := KD.out.c2w
            have lD := KD.out.lt
            go_upto_region 13 with fail
            clear qD_0 qD_1 lD
            obtain ⟨qP_0, qP_1⟩ := KP.out.c2w
            have lP := KP.out.lt
            obtain ⟨qD_0, qD_1⟩ := KD.out.c2w
            have lD := KD.out.lt
            have c1 := (BB.out.cell (p := ⟨bS, o + j, none⟩) hb).trans c0
            have lb := Nat.lt_of_lt_of_le hb BB.out.size
            go_wp2_with fail
            refine (same_wo Ab Bb (some ⟨bS, o, none⟩) B i2.length ab st.length bb n a m b i2 st is st _ Rb.out.i.ints Rb.out.s.ints (HI.out.below BB.out) (HST.out.below BB.out)).mono ?_
            rw [HSM.out]
            rw [sameWo_refl]
            try dsimp only
            rintro e U10 ⟨rfl, bU10⟩
            clear qP_0 qP_1 lP qD_0 qD_1 lD c1 lb
            replace KD := Lib.hid (KD.out.below bU10 KD.out.lt)
            replace KN := Lib.hid (KN.out.below bU10 KN.out.lt)
            replace KP := Lib.hid (KP.out.below bU10 KP.out.lt)
            replace KQ := Lib.hid (KQ.out.below bU10 KQ.out.lt)
            replace Ra := Lib.hid (Ra.out.below bU10)
            replace Rb := Lib.hid (Rb.out.below bU10)
            replace Rc := Lib.hid (Rc.out.below bU10)
            replace BB := Lib.hid (below3 BB.out bU10)
            clear bU10
            go_upto_region 15 with fail
            obtain ⟨qN_0, qN_1⟩ := KN.out.c2w
            have lN := KN.out.lt
            go_wp2_with fail
            refine (park_wo Aa Ba i1.length aa s1.length ba i1 s1 (j : Int) _ Ra.out.i.ints Ra.out.s.ints).mono ?_
            rw [HP.out]
            try dsimp only
            rintro e U11 ⟨Ap, ap, Bp, bp, he, ow, bU11⟩
            try dsimp only at he ow
            subst he
            clear qN_0 qN_1 lN
            have LD_p : Hid (w.heap.size < U10.heap.size) := Lib.hid KD.out.lt
            have LN_p : Hid (gN < U10.heap.size) := Lib.hid KN.out.lt
            have LP_p : Hid (gP < U10.heap.size) := Lib.hid KP.out.lt
            have LQ_p : Hid (gQ < U10.heap.size) := Lib.hid KQ.out.lt
            have HBBp : Hid (w.heap.size ≤ U10.heap.size) := Lib.hid BB.out.size
            have HSZp : Hid (U10.heap.size ≤ U11.heap.size) := Lib.hid bU11.size
            have Rp := Lib.hid ow
            clear ow
            replace KD := Lib.hid (KD.out.below bU11 KD.out.lt)
            replace KN := Lib.hid (KN.out.below bU11 KN.out.lt)
            replace KP := Lib.hid (KP.out.below bU11 KP.out.lt)
            replace KQ := Lib.hid (KQ.out.below bU11 KQ.out.lt)
            replace Ra := Lib.hid (Ra.out.below bU11)
            replace Rb := Lib.hid (Rb.out.below bU11)
            replace Rc := Lib.hid (Rc.out.below bU11)
            replace BB := Lib.hid (below3 BB.out bU11)
            clear bU11
            have kt := Bk.new U11 24 #[.slice Ap 0 ap, .slice Bp 0 bp]
            have ba := (Below.refl U11.heap.size U11).alloc (Nat.le_refl _) (.cells #[.slice Ap 0 ap, .slice Bp 0 bp] 24)
            have oD := KD.out.lt
            have oN := KN.out.lt
            have oP := KP.out.lt
            have oQ := KQ.out.lt
            have hgb := BB.out.size
            replace KD := Lib.hid (KD.out.below ba KD.out.lt)
            replace KN := Lib.hid (KN.out.below ba KN.out.lt)
            replace KP := Lib.hid (KP.out.below ba KP.out.lt)
            replace KQ := Lib.hid (KQ.out.below ba KQ.out.lt)
            replace Ra := Lib.hid (Ra.out.below ba)
            replace Rb := Lib.hid (Rb.out.below ba)
            replace Rc := Lib.hid (Rc.out.below ba)
            replace Rp := Lib.hid (Rp.out.below ba)
            replace BB := Lib.hid (below3 BB.out ba)
            clear ba
            obtain ⟨W12, hW⟩ : ∃ W, U11.alloc (.cells #[.slice Ap 0 ap, .slice Bp 0 bp] 24) = W := ⟨_, rfl⟩
            obtain ⟨gY, hg⟩ : ∃ g, U11.heap.size = g := ⟨_, rfl⟩
            rw [hW] at kt BB KD KN KP KQ Ra Rb Rc Rp
            rw [hg] at kt hgb oD oN oP oQ HSZp
            have HW := Lib.hid hW
            have HG := Lib.hid hg
            have KY := Lib.hid kt
            have HBY := Lib.hid hgb
            have OD_Y := Lib.hid oD
            have ON_Y := Lib.hid oN
            have OP_Y := Lib.hid oP
            have OQ_Y := Lib.hid oQ
            clear hW hg kt hgb oD oN oP oQ
            go_upto_region 16 with fail
            rw [HW.out]
            try rw [HG.out]
            clear HW HG
            go_wp2_with fail
            go_ret
            exact ⟨rfl, BB.out⟩
          · have HP := Lib.hid hpk
            clear hpk
            have tz : (z == 0) = false := by simp; omega
            clear hz0
            have t0 : decide (100 < (n : Int)) = false := decide_eq_false (by omega)
            have HK := Lib.hid fun U hU => check_wo (some ⟨bS, o, none⟩) B n a m b is st U (hi.below hU) (hs.below hU)
            have HE : Hid (chkWo is st = 0) := Lib.hid (if_pos hok)
            have HQ := Lib.hid fun U hU => ann_wo (some ⟨bS, o, none⟩) B n a m b is st (j : Int) U (hi.below hU) (hs.below hU)
            clear hi hs hok hann hA hF hW hsame hn1 hin1 ok1 hlast h1 h2 h3 f4 hz1 hjst hz
            obtain ⟨kb0, hb0⟩ := lay1 w #[.slice (some ⟨bS, o, none⟩) n a, .slice B m b] 24
            obtain ⟨V, hV⟩ : ∃ V, w.alloc (.cells #[.slice (some ⟨bS, o, none⟩) n a, .slice B m b] 24) = V := ⟨_, rfl⟩
            rw [hV] at hb0 kb0
            have HV := Lib.hid hV
            have BB := Lib.hid hb0
            have KD := Lib.hid kb0
            have HBD : Hid (w.heap.size ≤ w.heap.size) := Lib.hid (by omega)
            clear hV hb0 kb0
            go_enter Try.func4, Try.ntmps4
            go_upto_region 1 with fail
            rw [HV.out]
            clear HV
            go_wp2_with fail
            refine (live_wo _).mono ?_
            try dsimp only
            rintro e U1 ⟨rfl, bU1⟩
            replace KD := Lib.hid (KD.out.below bU1 KD.out.lt)
            replace BB := Lib.hid (below3 BB.out bU1)
            clear bU1
            obtain ⟨qD_0, qD_1⟩ := KD.out.c2w
            have lD := KD.out.lt
            go_wp2_with fail
            refine (HK.out _ BB.out).mono ?_
            rw [HE.out]
            try dsimp only
            rintro e U2 ⟨rfl, bU2⟩
            clear qD_0 qD_1 lD
            replace KD := Lib.hid (KD.out.below bU2 KD.out.lt)
            replace BB := Lib.hid (below3 BB.out bU2)
            clear bU2
            clear HK HE
            obtain ⟨qD_0, qD_1⟩ := KD.out.c2w
            have lD := KD.out.lt
            go_wp2_with fail
            refine (HQ.out _ BB.out).mono ?_
            rw [HA.out]
            try dsimp only
            rintro e U3 ⟨Aa, aa, Ba, ba, he, ow, bU3⟩
            try dsimp only at he ow
            subst he
            clear qD_0 qD_1 lD
            have LD_a : Hid (w.heap.size < U2.heap.size) := Lib.hid KD.out.lt
            have HBBa : Hid (w.heap.size ≤ U2.heap.size) := Lib.hid BB.out.size
            have HSZa : Hid (U2.heap.size ≤ U3.heap.size) := Lib.hid bU3.size
            have Ra := Lib.hid ow
            clear ow
            replace KD := Lib.hid (KD.out.below bU3 KD.out.lt)
            replace BB := Lib.hid (below3 BB.out bU3)
            clear bU3
            have kt := Bk.new U3 24 #[.slice Aa i1.length aa, .slice Ba s1.length ba]
            have ba := (Below.refl U3.heap.size U3).alloc (Nat.le_refl _) (.cells #[.slice Aa i1.length aa, .slice Ba s1.length ba] 24)
            have oD := KD.out.lt
            have hgb := BB.out.size
            replace KD := Lib.hid (KD.out.below ba KD.out.lt)
            replace Ra := Lib.hid (Ra.out.below ba)
            replace BB := Lib.hid (below3 BB.out ba)
            clear ba
            obtain ⟨W4, hW⟩ : ∃ W, U3.alloc (.cells #[.slice Aa i1.length aa, .slice Ba s1.length ba] 24) = W := ⟨_, rfl⟩
            obtain ⟨gN, hg⟩ : ∃ g, U3.heap.size = g := ⟨_, rfl⟩
            rw [hW] at kt BB KD Ra
            rw [hg] at kt hgb oD HSZa
            have HW := Lib.hid hW
            have HG := Lib.hid hg
            have KN := Lib.hid kt
            have HBN := Lib.hid hgb
            have OD_N := Lib.hid oD
            clear hW hg kt hgb oD
            go_upto_region 7 with fail
            rw [HW.out]
            try rw [HG.out]
            clear HW HG
            clear HQ
            obtain ⟨qN_0, qN_1⟩ := KN.out.c2w
            have lN := KN.out.lt
            go_upto_region 9 with fail
            clear qN_0 qN_1 lN
            obtain ⟨qN_0, qN_1⟩ := KN.out.c2w
            have lN := KN.out.lt
            go_wp2_with fail
            refine (found_wo Aa Ba i1.length aa s1.length ba i1 s1 (j : Int) _ Ra.out.i.ints Ra.out.s.ints).mono ?_
            rw [HF.out]
            try dsimp only
            rintro e U5 ⟨Ab, ab, Bb, bb, he, ow, bU5⟩
            try dsimp only at he ow
            subst he
            clear qN_0 qN_1 lN
            have LD_b : Hid (w.heap.size < W4.heap.size) := Lib.hid KD.out.lt
            have LN_b : Hid (gN < W4.heap.size) := Lib.hid KN.out.lt
            have HBBb : Hid (w.heap.size ≤ W4.heap.size) := Lib.hid BB.out.size
            have HSZb : Hid (W4.heap.size ≤ U5.heap.size) := Lib.hid bU5.size
            have Rb := Lib.hid ow
            clear ow
            replace KD := Lib.hid (KD.out.below bU5 KD.out.lt)
            replace KN := Lib.hid (KN.out.below bU5 KN.out.lt)
            replace Ra := Lib.hid (Ra.out.below bU5)
            replace BB := Lib.hid (below3 BB.out bU5)
            clear bU5
            have kt := Bk.new U5 24 #[.slice Ab i2.length ab, .slice Bb st.length bb]
            have ba := (Below.refl U5.heap.size U5).alloc (Nat.le_refl _) (.cells #[.slice Ab i2.length ab, .slice Bb st.length bb] 24)
            have oD := KD.out.lt
            have oN := KN.out.lt
            have hgb := BB.out.size
            replace KD := Lib.hid (KD.out.below ba KD.out.lt)
            replace KN := Lib.hid (KN.out.below ba KN.out.lt)
            replace Ra := Lib.hid (Ra.out.below ba)
            replace Rb := Lib.hid (Rb.out.below ba)
            replace BB := Lib.hid (below3 BB.out ba)
            clear ba
            obtain ⟨W6, hW⟩ : ∃ W, U5.alloc (.cells #[.slice Ab i2.length ab, .slice Bb st.length bb] 24) = W := ⟨_, rfl⟩
            obtain ⟨gP, hg⟩ : ∃ g, U5.heap.size = g := ⟨_, rfl⟩
            rw [hW] at kt BB KD KN Ra Rb
            rw [hg] at kt hgb oD oN HSZb
            have HW := Lib.hid hW
            have HG := Lib.hid hg
            have KP := Lib.hid kt
            have HBP := Lib.hid hgb
            have OD_P := Lib.hid oD
            have ON_P := Lib.hid oN
            clear hW hg kt hgb oD oN
            go_upto_region 10 with fail
            rw [HW.out]
            try rw [HG.out]
            clear HW HG
            obtain ⟨qN_0, qN_1⟩ := KN.out.c2w
            have lN := KN.out.lt
            go_wp2_with fail
            refine (wake_wo Aa Ba i1.length aa s1.length ba i1 s1 _ Ra.out.i.ints Ra.out.s.ints).mono ?_
            rw [HW0.out]
            try dsimp only
            rintro e U7 ⟨Ac, ac, Bc, bc, he, ow, bU7⟩
            try dsimp only at he ow
            subst he
            clear qN_0 qN_1 lN
            have LD_c : Hid (w.heap.size < W6.heap.size) := Lib.hid KD.out.lt
            have LN_c : Hid (gN < W6.heap.size) := Lib.hid KN.out.lt
            have LP_c : Hid (gP < W6.heap.size) := Lib.hid KP.out.lt
            have HBBc : Hid (w.heap.size ≤ W6.heap.size) := Lib.hid BB.out.size
            have HSZc : Hid (W6.heap.size ≤ U7.heap.size) := Lib.hid bU7.size
            have Rc := Lib.hid ow
            clear ow
            replace KD := Lib.hid (KD.out.below bU7 KD.out.lt)
            replace KN := Lib.hid (KN.out.below bU7 KN.out.lt)
            replace KP := Lib.hid (KP.out.below bU7 KP.out.lt)
            replace Ra := Lib.hid (Ra.out.below bU7)
            replace Rb := Lib.hid (Rb.out.below bU7)
            replace BB := Lib.hid (below3 BB.out bU7)
            clear bU7
            have kt := Bk.new U7 24 #[.slice Ac i2.length ac, .slice Bc st.length bc]
            have ba := (Below.refl U7.heap.size U7).alloc (Nat.le_refl _) (.cells #[.slice Ac i2.length ac, .slice Bc st.length bc] 24)
            have oD := KD.out.lt
            have oN := KN.out.lt
            have oP := KP.out.lt
            have hgb := BB.out.size
            replace KD := Lib.hid (KD.out.below ba KD.out.lt)
            replace KN := Lib.hid (KN.out.below ba KN.out.lt)
            replace KP := Lib.hid (KP.out.below ba KP.out.lt)
            replace Ra := Lib.hid (Ra.out.below ba)
            replace Rb := Lib.hid (Rb.out.below ba)
            replace Rc := Lib.hid (Rc.out.below ba)
            replace BB := Lib.hid (below3 BB.out ba)
            clear ba
            obtain ⟨W8, hW⟩ : ∃ W, U7.alloc (.cells #[.slice Ac i2.length ac, .slice Bc st.length bc] 24) = W := ⟨_, rfl⟩
            obtain ⟨gQ, hg⟩ : ∃ g, U7.heap.size = g := ⟨_, rfl⟩
            rw [hW] at kt BB KD KN KP Ra Rb Rc
            rw [hg] at kt hgb oD oN oP HSZc
            have HW := Lib.hid hW
            have HG := Lib.hid hg
            have KQ := Lib.hid kt
            have HBQ := Lib.hid hgb
            have OD_Q := Lib.hid oD
            have ON_Q := Lib.hid oN
            have OP_Q := Lib.hid oP
            clear hW hg kt hgb oD oN oP
            go_upto_region 11 with fail
            rw [HW.out]
            try rw [HG.out]
            clear HW HG
            obtain ⟨qP_0, qP_1⟩ := KP.out.c2w
            have lP := KP.out.lt
            obtain ⟨qQ_0, qQ_1⟩ := KQ.out.c2w
            have lQ := KQ.out.lt
            obtain ⟨qD_0, qD_1⟩ := KD.out.c2w
            have lD := KD.out.lt
            go_wp2_with fail
            refine (same_wo Ab Bb Ac Bc i2.length ab st.length bb i2.length ac st.length bc i2 st i2 st _ Rb.out.i.ints Rb.out.s.ints Rc.out.i.ints Rc.out.s.ints).mono ?_
            rw [sameWo_refl]
            try dsimp only
            rintro e U9 ⟨rfl, bU9⟩
            clear qP_0 qP_1 lP qQ_0 qQ_1 lQ qD_0 qD_1 lD
            replace KD := Lib.hid (KD.out.below bU9 KD.out.lt)
            replace KN := Lib.hid (KN.out.below bU9 KN.out.lt)
            replace KP := Lib.hid (KP.out.below bU9 KP.out.lt)
            replace KQ := Lib.hid (KQ.out.below bU9 KQ.out.lt)
            replace Ra := Lib.hid (Ra.out.below bU9)
            replace Rb := Lib.hid (Rb.out.below bU9)
            replace Rc := Lib.hid (Rc.out.below bU9)
            replace BB := Lib.hid (below3 BB.out bU9)
            clear bU9
            obtain ⟨qD_0, qD_1⟩ := KD.out.c2w
            have lD := KD.out.lt
            go_upto_region 13 with fail
            clear qD_0 qD_1 lD
            obtain ⟨qP_0, qP_1⟩ := KP.out.c2w
            have lP := KP.out.lt
            obtain ⟨qD_0, qD_1⟩ := KD.out.c2w
            have lD := KD.out.lt
            have c1 := (BB.out.cell (p := ⟨bS, o + j, none⟩) hb).trans c0
            have lb := Nat.lt_of_lt_of_le hb BB.out.size
            go_upto_region 15 with fail
            clear qP_0 qP_1 lP qD_0 qD_1 lD c1 lb
            obtain ⟨qN_0, qN_1⟩ := KN.out.c2w
            have lN := KN.out.lt
            go_wp2_with fail
            refine (park_wo Aa Ba i1.length aa s1.length ba i1 s1 (j : Int) _ Ra.out.i.ints Ra.out.s.ints).mono ?_
            rw [HP.out]
            try dsimp only
            rintro e U10 ⟨Ap, ap, Bp, bp, he, ow, bU10⟩
            try dsimp only at he ow
            subst he
            clear qN_0 qN_1 lN
            have LD_p : Hid (w.heap.size < U9.heap.size) := Lib.hid KD.out.lt
            have LN_p : Hid (gN < U9.heap.size) := Lib.hid KN.out.lt
            have LP_p : Hid (gP < U9.heap.size) := Lib.hid KP.out.lt
            have LQ_p : Hid (gQ < U9.heap.size) := Lib.hid KQ.out.lt
            have HBBp : Hid (w.heap.size ≤ U9.heap.size) := Lib.hid BB.out.size
            have HSZp : Hid (U9.heap.size ≤ U10.heap.size) := Lib.hid bU10.size
            have Rp := Lib.hid ow
            clear ow
            replace KD := Lib.hid (KD.out.below bU10 KD.out.lt)
            replace KN := Lib.hid (KN.out.below bU10 KN.out.lt)
            replace KP := Lib.hid (KP.out.below bU10 KP.out.lt)
            replace KQ := Lib.hid (KQ.out.below bU10 KQ.out.lt)
            replace Ra := Lib.hid (Ra.out.below bU10)
            replace Rb := Lib.hid (Rb.out.below bU10)
            replace Rc := Lib.hid (Rc.out.below bU10)
            replace BB := Lib.hid (below3 BB.out bU10)
            clear bU10
            have kt := Bk.new U10 24 #[.slice Ap 0 ap, .slice Bp 0 bp]
            have ba := (Below.refl U10.heap.size U10).alloc (Nat.le_refl _) (.cells #[.slice Ap 0 ap, .slice Bp 0 bp] 24)
            have oD := KD.out.lt
            have oN := KN.out.lt
            have oP := KP.out.lt
            have oQ := KQ.out.lt
            have hgb := BB.out.size
            replace KD := Lib.hid (KD.out.below ba KD.out.lt)
            replace KN := Lib.hid (KN.out.below ba KN.out.lt)
            replace KP := Lib.hid (KP.out.below ba KP.out.lt)
            replace KQ := Lib.hid (KQ.out.below ba KQ.out.lt)
            replace Ra := Lib.hid (Ra.out.below ba)
            replace Rb := Lib.hid (Rb.out.below ba)
            replace Rc := Lib.hid (Rc.out.below ba)
            replace Rp := Lib.hid (Rp.out.below ba)
            replace BB := Lib.hid (below3 BB.out ba)
            clear ba
            obtain ⟨W11, hW⟩ : ∃ W, U10.alloc (.cells #[.slice Ap 0 ap, .slice Bp 0 bp] 24) = W := ⟨_, rfl⟩
            obtain ⟨gY, hg⟩ : ∃ g, U10.heap.size = g := ⟨_, rfl⟩
            rw [hW] at kt BB KD KN KP KQ Ra Rb Rc Rp
            rw [hg] at kt hgb oD oN oP oQ HSZp
            have HW := Lib.hid hW
            have HG := Lib.hid hg
            have KY := Lib.hid kt
            have HBY := Lib.hid hgb
            have OD_Y := Lib.hid oD
            have ON_Y := Lib.hid oN
            have OP_Y := Lib.hid oP
            have OQ_Y := Lib.hid oQ
            clear hW hg kt hgb oD oN oP oQ
            go_upto_region 16 with fail
            rw [HW.out]
            try rw [HG.out]
            clear HW HG
            go_wp2_with fail
            go_ret
            exact ⟨rfl, BB.out⟩
        · by_cases hz0 : z = 0
          · obtain ⟨i3, hp1, hp2, hp3⟩ := hpk
            have HP := Lib.hid hp1
            have HPF := Lib.hid hp2
            have HPW := Lib.hid hp3
            clear hp1 hp2 hp3
            have HSM : Hid (i2 = is) := Lib.hid (hsame hz0)
            have tz : (z == 0) = true := by simp; omega
            clear hz0
            have t0 : decide (100 < (n : Int)) = false := decide_eq_false (by omega)
            have HK := Lib.hid fun U hU => check_wo (some ⟨bS, o, none⟩) B n a m b is st U (hi.below hU) (hs.below hU)
            have HE : Hid (chkWo is st = 0) := Lib.hid (if_pos hok)
            have HQ := Lib.hid fun U hU => ann_wo (some ⟨bS, o, none⟩) B n a m b is st (j : Int) U (hi.below hU) (hs.below hU)
            clear hi hs hok hann hA hF hW hsame hn1 hin1 ok1 hlast h1 h2 h3 f4 hz1 hjst hz
            obtain ⟨kb0, hb0⟩ := lay1 w #[.slice (some ⟨bS, o, none⟩) n a, .slice B m b] 24
            obtain ⟨V, hV⟩ : ∃ V, w.alloc (.cells #[.slice (some ⟨bS, o, none⟩) n a, .slice B m b] 24) = V := ⟨_, rfl⟩
            rw [hV] at hb0 kb0
            have HV := Lib.hid hV
            have BB := Lib.hid hb0
            have KD := Lib.hid kb0
            have HBD : Hid (w.heap.size ≤ w.heap.size) := Lib.hid (by omega)
            clear hV hb0 kb0
            go_enter Try.func4, Try.ntmps4
            go_upto_region 1 with fail
            rw [HV.out]
            clear HV
            go_wp2_with fail
            refine (live_wo _).mono ?_
            try dsimp only
            rintro e U1 ⟨rfl, bU1⟩
            replace KD := Lib.hid (KD.out.below bU1 KD.out.lt)
            replace BB := Lib.hid (below3 BB.out bU1)
            clear bU1
            obtain ⟨qD_0, qD_1⟩ := KD.out.c2w
            have lD := KD.out.lt
            go_wp2_with fail
            refine (HK.out _ BB.out).mono ?_
            rw [HE.out]
            try dsimp only
            rintro e U2 ⟨rfl, bU2⟩
            clear qD_0 qD_1 lD
            replace KD := Lib.hid (KD.out.below bU2 KD.out.lt)
            replace BB := Lib.hid (below3 BB.out bU2)
            clear bU2
            clear HK HE
            obtain ⟨qD_0, qD_1⟩ := KD.out.c2w
            have lD := KD.out.lt
            go_wp2_with fail
            refine (HQ.out _ BB.out).mono ?_
            rw [HA.out]
            try dsimp only
            rintro e U3 ⟨Aa, aa, Ba, ba, he, ow, bU3⟩
            try dsimp only at he ow
            subst he
            clear qD_0 qD_1 lD
            have LD_a : Hid (w.heap.size < U2.heap.size) := Lib.hid KD.out.lt
            have HBBa : Hid (w.heap.size ≤ U2.heap.size) := Lib.hid BB.out.size
            have HSZa : Hid (U2.heap.size ≤ U3.heap.size) := Lib.hid bU3.size
            have Ra := Lib.hid ow
            clear ow
            replace KD := Lib.hid (KD.out.below bU3 KD.out.lt)
            replace BB := Lib.hid (below3 BB.out bU3)
            clear bU3
            have kt := Bk.new U3 24 #[.slice Aa i1.length aa, .slice Ba s1.length ba]
            have ba := (Below.refl U3.heap.size U3).alloc (Nat.le_refl _) (.cells #[.slice Aa i1.length aa, .slice Ba s1.length ba] 24)
            have oD := KD.out.lt
            have hgb := BB.out.size
            replace KD := Lib.hid (KD.out.below ba KD.out.lt)
            replace Ra := Lib.hid (Ra.out.below ba)
            replace BB := Lib.hid (below3 BB.out ba)
            clear ba
            obtain ⟨W4, hW⟩ : ∃ W, U3.alloc (.cells #[.slice Aa i1.length aa, .slice Ba s1.length ba] 24) = W := ⟨_, rfl⟩
            obtain ⟨gN, hg⟩ : ∃ g, U3.heap.size = g := ⟨_, rfl⟩
            rw [hW] at kt BB KD Ra
            rw [hg] at kt hgb oD HSZa
            have HW := Lib.hid hW
            have HG := Lib.hid hg
            have KN := Lib.hid kt
            have HBN := Lib.hid hgb
            have OD_N := Lib.hid oD
            clear hW hg kt hgb oD
            go_upto_region 7 with fail
            rw [HW.out]
            try rw [HG.out]
            clear HW HG
            clear HQ
            obtain ⟨qN_0, qN_1⟩ := KN.out.c2w
            have lN := KN.out.lt
            go_upto_region 9 with fail
            clear qN_0 qN_1 lN
            obtain ⟨qN_0, qN_1⟩ := KN.out.c2w
            have lN := KN.out.lt
            go_wp2_with fail
            refine (found_wo Aa Ba i1.length aa s1.length ba i1 s1 (j : Int) _ Ra.out.i.ints Ra.out.s.ints).mono ?_
            rw [HF.out]
            try dsimp only
            rintro e U5 ⟨Ab, ab, Bb, bb, he, ow, bU5⟩
            try dsimp only at he ow
            subst he
            clear qN_0 qN_1 lN
            have LD_b : Hid (w.heap.size < W4.heap.size) := Lib.hid KD.out.lt
            have LN_b : Hid (gN < W4.heap.size) := Lib.hid KN.out.lt
            have HBBb : Hid (w.heap.size ≤ W4.heap.size) := Lib.hid BB.out.size
            have HSZb : Hid (W4.heap.size ≤ U5.heap.size) := Lib.hid bU5.size
            have Rb := Lib.hid ow
            clear ow
            replace KD := Lib.hid (KD.out.below bU5 KD.out.lt)
            replace KN := Lib.hid (KN.out.below bU5 KN.out.lt)
            replace Ra := Lib.hid (Ra.out.below bU5)
            replace BB := Lib.hid (below3 BB.out bU5)
            clear bU5
            have kt := Bk.new U5 24 #[.slice Ab i2.length ab, .slice Bb st.length bb]
            have ba := (Below.refl U5.heap.size U5).alloc (Nat.le_refl _) (.cells #[.slice Ab i2.length ab, .slice Bb st.length bb] 24)
            have oD := KD.out.lt
            have oN := KN.out.lt
            have hgb := BB.out.size
            replace KD := Lib.hid (KD.out.below ba KD.out.lt)
            replace KN := Lib.hid (KN.out.below ba KN.out.lt)
            replace Ra := Lib.hid (Ra.out.below ba)
            replace Rb := Lib.hid (Rb.out.below ba)
            replace BB := Lib.hid (below3 BB.out ba)
            clear ba
            obtain ⟨W6, hW⟩ : ∃ W, U5.alloc (.cells #[.slice Ab i2.length ab, .slice Bb st.length bb] 24) = W := ⟨_, rfl⟩
            obtain ⟨gP, hg⟩ : ∃ g, U5.heap.size = g := ⟨_, rfl⟩
            rw [hW] at kt BB KD KN Ra Rb
            rw [hg] at kt hgb oD oN HSZb
            have HW := Lib.hid hW
            have HG := Lib.hid hg
            have KP := Lib.hid kt
            have HBP := Lib.hid hgb
            have OD_P := Lib.hid oD
            have ON_P := Lib.hid oN
            clear hW hg kt hgb oD oN
            go_upto_region 10 with fail
            rw [HW.out]
            try rw [HG.out]
            clear HW HG
            obtain ⟨qN_0, qN_1⟩ := KN.out.c2w
            have lN := KN.out.lt
            go_wp2_with fail
            refine (wake_wo Aa Ba i1.length aa s1.length ba i1 s1 _ Ra.out.i.ints Ra.out.s.ints).mono ?_
            rw [HW0.out]
            try dsimp only
            rintro e U7 ⟨Ac, ac, Bc, bc, he, ow, bU7⟩
            try dsimp only at he ow
            subst he
            clear qN_0 qN_1 lN
            have LD_c : Hid (w.heap.size < W6.heap.size) := Lib.hid KD.out.lt
            have LN_c : Hid (gN < W6.heap.size) := Lib.hid KN.out.lt
            have LP_c : Hid (gP < W6.heap.size) := Lib.hid KP.out.lt
            have HBBc : Hid (w.heap.size ≤ W6.heap.size) := Lib.hid BB.out.size
            have HSZc : Hid (W6.heap.size ≤ U7.heap.size) := Lib.hid bU7.size
            have Rc := Lib.hid ow
            clear ow
            replace KD := Lib.hid (KD.out.below bU7 KD.out.lt)
            replace KN := Lib.hid (KN.out.below bU7 KN.out.lt)
            replace KP := Lib.hid (KP.out.below bU7 KP.out.lt)
            replace Ra := Lib.hid (Ra.out.below bU7)
            replace Rb := Lib.hid (Rb.out.below bU7)
            replace BB := Lib.hid (below3 BB.out bU7)
            clear bU7
            have kt := Bk.new U7 24 #[.slice Ac i2.length ac, .slice Bc st.length bc]
            have ba := (Below.refl U7.heap.size U7).alloc (Nat.le_refl _) (.cells #[.slice Ac i2.length ac, .slice Bc st.length bc] 24)
            have oD := KD.out.lt
            have oN := KN.out.lt
            have oP := KP.out.lt
            have hgb := BB.out.size
            replace KD := Lib.hid (KD.out.below ba KD.out.lt)
            replace KN := Lib.hid (KN.out.below ba KN.out.lt)
            replace KP := Lib.hid (KP.out.below ba KP.out.lt)
            replace Ra := Lib.hid (Ra.out.below ba)
            replace Rb := Lib.hid (Rb.out.below ba)
            replace Rc := Lib.hid (Rc.out.below ba)
            replace BB := Lib.hid (below3 BB.out ba)
            clear ba
            obtain ⟨W8, hW⟩ : ∃ W, U7.alloc (.cells #[.slice Ac i2.length ac, .slice Bc st.length bc] 24) = W := ⟨_, rfl⟩
            obtain ⟨gQ, hg⟩ : ∃ g, U7.heap.size = g := ⟨_, rfl⟩
            rw [hW] at kt BB KD KN KP Ra Rb Rc
            rw [hg] at kt hgb oD oN oP HSZc
            have HW := Lib.hid hW
            have HG := Lib.hid hg
            have KQ := Lib.hid kt
            have HBQ := Lib.hid hgb
            have OD_Q := Lib.hid oD
            have ON_Q := Lib.hid oN
            have OP_Q := Lib.hid oP
            clear hW hg kt hgb oD oN oP
            go_upto_region 11 with fail
            rw [HW.out]
            try rw [HG.out]
            clear HW HG
            obtain ⟨qP_0, qP_1⟩ := KP.out.c2w
            have lP := KP.out.lt
            obtain ⟨qQ_0, qQ_1⟩ := KQ.out.c2w
            have lQ := KQ.out.lt
            obtain ⟨qD_0, qD_1⟩ := KD.out.c2w
            have lD := KD.out.lt
            go_wp2_with fail
            refine (same_wo Ab Bb Ac Bc i2.length ab st.length bb i2.length ac st.length bc i2 st i2 st _ Rb.out.i.ints Rb.out.s.ints Rc.out.i.ints Rc.out.s.ints).mono ?_
            rw [sameWo_refl]
            try dsimp only
            rintro e U9 ⟨rfl, bU9⟩
            clear qP_0 qP_1 lP qQ_0 qQ_1 lQ qD_0 qD_1 lD
            replace KD := Lib.hid (KD.out.below bU9 KD.out.lt)
            replace KN := Lib.hid (KN.out.below bU9 KN.out.lt)
            replace KP := Lib.hid (KP.out.below bU9 KP.out.lt)
            replace KQ := Lib.hid (KQ.out.below bU9 KQ.out.lt)
            replace Ra := Lib.hid (Ra.out.below bU9)
            replace Rb := Lib.hid (Rb.out.below bU9)
            replace Rc := Lib.hid (Rc.out.below bU9)
            replace BB := Lib.hid (below3 BB.out bU9)
            clear bU9
            obtain ⟨qD_0, qD_1⟩ := KD.out.c2w
            have lD := KD.out.lt
            go_upto_region 13 with fail
            clear qD_0 qD_1 lD
            obtain ⟨qP_0, qP_1⟩ := KP.out.c2w
            have lP := KP.out.lt
            obtain ⟨qD_0, qD_1⟩ := KD.out.c2w
            have lD := KD.out.lt
            have c1 := (BB.out.cell (p := ⟨bS, o + j, none⟩) hb).trans c0
            have lb := Nat.lt_of_lt_of_le hb BB.out.size
            go_wp2_with fail
            refine (same_wo Ab Bb (some ⟨bS, o, none⟩) B i2.length ab st.length bb n a m b i2 st is st _ Rb.out.i.ints Rb.out.s.ints (HI.out.below BB.out) (HST.out.below BB.out)).mono ?_
            rw [HSM.out]
            rw [sameWo_refl]
            try dsimp only
            rintro e U10 ⟨rfl, bU10⟩
            clear qP_0 qP_1 lP qD_0 qD_1 lD c1 lb
            replace KD := Lib.hid (KD.out.below bU10 KD.out.lt)
            replace KN := Lib.hid (KN.out.below bU10 KN.out.lt)
            replace KP := Lib.hid (KP.out.below bU10 KP.out.lt)
            replace KQ := Lib.hid (KQ.out.below bU10 KQ.out.lt)
            replace Ra := Lib.hid (Ra.out.below bU10)
            replace Rb := Lib.hid (Rb.out.below bU10)
            replace Rc := Lib.hid (Rc.out.below bU10)
            replace BB := Lib.hid (below3 BB.out bU10)
            clear bU10
            go_upto_region 15 with fail
            obtain ⟨qN_0, qN_1⟩ := KN.out.c2w
            have lN := KN.out.lt
            go_wp2_with fail
            refine (park_wo Aa Ba i1.length aa s1.length ba i1 s1 (j : Int) _ Ra.out.i.ints Ra.out.s.ints).mono ?_
            rw [HP.out]
            try dsimp only
            rintro e U11 ⟨Ap, ap, Bp, bp, he, ow, bU11⟩
            try dsimp only at he ow
            subst he
            clear qN_0 qN_1 lN
            have LD_p : Hid (w.heap.size < U10.heap.size) := Lib.hid KD.out.lt
            have LN_p : Hid (gN < U10.heap.size) := Lib.hid KN.out.lt
            have LP_p : Hid (gP < U10.heap.size) := Lib.hid KP.out.lt
            have LQ_p : Hid (gQ < U10.heap.size) := Lib.hid KQ.out.lt
            have HBBp : Hid (w.heap.size ≤ U10.heap.size) := Lib.hid BB.out.size
            have HSZp : Hid (U10.heap.size ≤ U11.heap.size) := Lib.hid bU11.size
            have Rp := Lib.hid ow
            clear ow
            replace KD := Lib.hid (KD.out.below bU11 KD.out.lt)
            replace KN := Lib.hid (KN.out.below bU11 KN.out.lt)
            replace KP := Lib.hid (KP.out.below bU11 KP.out.lt)
            replace KQ := Lib.hid (KQ.out.below bU11 KQ.out.lt)
            replace Ra := Lib.hid (Ra.out.below bU11)
            replace Rb := Lib.hid (Rb.out.below bU11)
            replace Rc := Lib.hid (Rc.out.below bU11)
            replace BB := Lib.hid (below3 BB.out bU11)
            clear bU11
            have kt := Bk.new U11 24 #[.slice Ap i3.length ap, .slice Bp s1.length bp]
            have ba := (Below.refl U11.heap.size U11).alloc (Nat.le_refl _) (.cells #[.slice Ap i3.length ap, .slice Bp s1.length bp] 24)
            have oD := KD.out.lt
            have oN := KN.out.lt
            have oP := KP.out.lt
            have oQ := KQ.out.lt
            have hgb := BB.out.size
            replace KD := Lib.hid (KD.out.below ba KD.out.lt)
            replace KN := Lib.hid (KN.out.below ba KN.out.lt)
            replace KP := Lib.hid (KP.out.below ba KP.out.lt)
            replace KQ := Lib.hid (KQ.out.below ba KQ.out.lt)
            replace Ra := Lib.hid (Ra.out.below ba)
            replace Rb := Lib.hid (Rb.out.below ba)
            replace Rc := Lib.hid (Rc.out.below ba)
            replace Rp := Lib.hid (Rp.out.below ba)
            replace BB := Lib.hid (below3 BB.out ba)
            clear ba
            obtain ⟨W12, hW⟩ : ∃ W, U11.alloc (.cells #[.slice Ap i3.length ap, .slice Bp s1.length bp] 24) = W := ⟨_, rfl⟩
            obtain ⟨gY, hg⟩ : ∃ g, U11.heap.size = g := ⟨_, rfl⟩
            rw [hW] at kt BB KD KN KP KQ Ra Rb Rc Rp
            rw [hg] at kt hgb oD oN oP oQ HSZp
            have HW := Lib.hid hW
            have HG := Lib.hid hg
            have KY := Lib.hid kt
            have HBY := Lib.hid hgb
            have OD_Y := Lib.hid oD
            have ON_Y := Lib.hid oN
            have OP_Y := Lib.hid oP
            have OQ_Y := Lib.hid oQ
            clear hW hg kt hgb oD oN oP oQ
            go_upto_region 16 with fail
            rw [HW.out]
            try rw [HG.out]
            clear HW HG
            go_upto_region 18 with fail
            obtain ⟨qY_0, qY_1⟩ := KY.out.c2w
            have lY := KY.out.lt
            go_wp2_with fail
            refine (found_wo Ap Bp i3.length ap s1.length bp i3 s1 (j : Int) _ Rp.out.i.ints Rp.out.s.ints).mono ?_
            rw [HPF.out]
            try dsimp only
            rintro e U13 ⟨Af, af, Bf, bf, he, ow, bU13⟩
            try dsimp only at he ow
            subst he
            clear qY_0 qY_1 lY
            have LD_f : Hid (w.heap.size < W12.heap.size) := Lib.hid KD.out.lt
            have LN_f : Hid (gN < W12.heap.size) := Lib.hid KN.out.lt
            have LP_f : Hid (gP < W12.heap.size) := Lib.hid KP.out.lt
            have LQ_f : Hid (gQ < W12.heap.size) := Lib.hid KQ.out.lt
            have LY_f : Hid (gY < W12.heap.size) := Lib.hid KY.out.lt
            have HBBf : Hid (w.heap.size ≤ W12.heap.size) := Lib.hid BB.out.size
            have HSZf : Hid (W12.heap.size ≤ U13.heap.size) := Lib.hid bU13.size
            have Rf := Lib.hid ow
            clear ow
            replace KD := Lib.hid (KD.out.below bU13 KD.out.lt)
            replace KN := Lib.hid (KN.out.below bU13 KN.out.lt)
            replace KP := Lib.hid (KP.out.below bU13 KP.out.lt)
            replace KQ := Lib.hid (KQ.out.below bU13 KQ.out.lt)
            replace KY := Lib.hid (KY.out.below bU13 KY.out.lt)
            replace Ra := Lib.hid (Ra.out.below bU13)
            replace Rb := Lib.hid (Rb.out.below bU13)
            replace Rc := Lib.hid (Rc.out.below bU13)
            replace Rp := Lib.hid (Rp.out.below bU13)
            replace BB := Lib.hid (below3 BB.out bU13)
            clear bU13
            have kt := Bk.new U13 24 #[.slice Af 0 af, .slice Bf 0 bf]
            have ba := (Below.refl U13.heap.size U13).alloc (Nat.le_refl _) (.cells #[.slice Af 0 af, .slice Bf 0 bf] 24)
            have oD := KD.out.lt
            have oN := KN.out.lt
            have oP := KP.out.lt
            have oQ := KQ.out.lt
            have oY := KY.out.lt
            have hgb := BB.out.size
            replace KD := Lib.hid (KD.out.below ba KD.out.lt)
            replace KN := Lib.hid (KN.out.below ba KN.out.lt)
            replace KP := Lib.hid (KP.out.below ba KP.out.lt)
            replace KQ := Lib.hid (KQ.out.below ba KQ.out.lt)
            replace KY := Lib.hid (KY.out.below ba KY.out.lt)
            replace Ra := Lib.hid (Ra.out.below ba)
            replace Rb := Lib.hid (Rb.out.below ba)
            replace Rc := Lib.hid (Rc.out.below ba)
            replace Rp := Lib.hid (Rp.out.below ba)
            replace Rf := Lib.hid (Rf.out.below ba)
            replace BB := Lib.hid (below3 BB.out ba)
            clear ba
            obtain ⟨W14, hW⟩ : ∃ W, U13.alloc (.cells #[.slice Af 0 af, .slice Bf 0 bf] 24) = W := ⟨_, rfl⟩
            obtain ⟨gX, hg⟩ : ∃ g, U13.heap.size = g := ⟨_, rfl⟩
            rw [hW] at kt BB KD KN KP KQ KY Ra Rb Rc Rp Rf
            rw [hg] at kt hgb oD oN oP oQ oY HSZf
            have HW := Lib.hid hW
            have HG := Lib.hid hg
            have KX := Lib.hid kt
            have HBX := Lib.hid hgb
            have OD_X := Lib.hid oD
            have ON_X := Lib.hid oN
            have OP_X := Lib.hid oP
            have OQ_X := Lib.hid oQ
            have OY_X := Lib.hid oY
            clear hW hg kt hgb oD oN oP oQ oY
            go_upto_region 19 with fail
            rw [HW.out]
            try rw [HG.out]
            clear HW HG
            obtain ⟨qY_0, qY_1⟩ := KY.out.c2w
            have lY := KY.out.lt
            go_wp2_with fail
            refine (wake_wo Ap Bp i3.length ap s1.length bp i3 s1 _ Rp.out.i.ints Rp.out.s.ints).mono ?_
            rw [HPW.out]
            try dsimp only
            rintro e U15 ⟨Ag, ag, Bg, bg, he, ow, bU15⟩
            try dsimp only at he ow
            subst he
            clear qY_0 qY_1 lY
            have LD_g : Hid (w.heap.size < W14.heap.size) := Lib.hid KD.out.lt
            have LN_g : Hid (gN < W14.heap.size) := Lib.hid KN.out.lt
            have LP_g : Hid (gP < W14.heap.size) := Lib.hid KP.out.lt
            have LQ_g : Hid (gQ < W14.heap.size) := Lib.hid KQ.out.lt
            have LY_g : Hid (gY < W14.heap.size) := Lib.hid KY.out.lt
            have LX_g : Hid (gX < W14.heap.size) := Lib.hid KX.out.lt
            have HBBg : Hid (w.heap.size ≤ W14.heap.size) := Lib.hid BB.out.size
            have HSZg : Hid (W14.heap.size ≤ U15.heap.size) := Lib.hid bU15.size
            have Rg := Lib.hid ow
            clear ow
            replace KD := Lib.hid (KD.out.below bU15 KD.out.lt)
            replace KN := Lib.hid (KN.out.below bU15 KN.out.lt)
            replace KP := Lib.hid (KP.out.below bU15 KP.out.lt)
            replace KQ := Lib.hid (KQ.out.below bU15 KQ.out.lt)
            replace KY := Lib.hid (KY.out.below bU15 KY.out.lt)
            replace KX := Lib.hid (KX.out.below bU15 KX.out.lt)
            replace Ra := Lib.hid (Ra.out.below bU15)
            replace Rb := Lib.hid (Rb.out.below bU15)
            replace Rc := Lib.hid (Rc.out.below bU15)
            replace Rp := Lib.hid (Rp.out.below bU15)
            replace Rf := Lib.hid (Rf.out.below bU15)
            replace BB := Lib.hid (below3 BB.out bU15)
            clear bU15
            have kt := Bk.new U15 24 #[.slice Ag i2.length ag, .slice Bg st.length bg]
            have ba := (Below.refl U15.heap.size U15).alloc (Nat.le_refl _) (.cells #[.slice Ag i2.length ag, .slice Bg st.length bg] 24)
            have oD := KD.out.lt
            have oN := KN.out.lt
            have oP := KP.out.lt
            have oQ := KQ.out.lt
            have oY := KY.out.lt
            have oX := KX.out.lt
            have hgb := BB.out.size
            replace KD := Lib.hid (KD.out.below ba KD.out.lt)
            replace KN := Lib.hid (KN.out.below ba KN.out.lt)
            replace KP := Lib.hid (KP.out.below ba KP.out.lt)
            replace KQ := Lib.hid (KQ.out.below ba KQ.out.lt)
            replace KY := Lib.hid (KY.out.below ba KY.out.lt)
            replace KX := Lib.hid (KX.out.below ba KX.out.lt)
            replace Ra := Lib.hid (Ra.out.below ba)
            replace Rb := Lib.hid (Rb.out.below ba)
            replace Rc := Lib.hid (Rc.out.below ba)
            replace Rp := Lib.hid (Rp.out.below ba)
            replace Rf := Lib.hid (Rf.out.below ba)
            replace Rg := Lib.hid (Rg.out.below ba)
            replace BB := Lib.hid (below3 BB.out ba)
            clear ba
            obtain ⟨W16, hW⟩ : ∃ W, U15.alloc (.cells #[.slice Ag i2.length ag, .slice Bg st.length bg] 24) = W := ⟨_, rfl⟩
            obtain ⟨gZ, hg⟩ : ∃ g, U15.heap.size = g := ⟨_, rfl⟩
            rw [hW] at kt BB KD KN KP KQ KY KX Ra Rb Rc Rp Rf Rg
            rw [hg] at kt hgb oD oN oP oQ oY oX HSZg
            have HW := Lib.hid hW
            have HG := Lib.hid hg
            have KZ := Lib.hid kt
            have HBZ := Lib.hid hgb
            have OD_Z := Lib.hid oD
            have ON_Z := Lib.hid oN
            have OP_Z := Lib.hid oP
            have OQ_Z := Lib.hid oQ
            have OY_Z := Lib.hid oY
            have OX_Z := Lib.hid oX
            clear hW hg kt hgb oD oN oP oQ oY oX
            go_upto_region 20 with fail
            rw [HW.out]
            try rw [HG.out]
            clear HW HG
            obtain ⟨qZ_0, qZ_1⟩ := KZ.out.c2w
            have lZ := KZ.out.lt
            obtain ⟨qP_0, qP_1⟩ := KP.out.c2w
            have lP := KP.out.lt
            go_wp2_with fail
            refine (same_wo Ag Bg Ab Bb i2.length ag st.length bg i2.length ab st.length bb i2 st i2 st _ Rg.out.i.ints Rg.out.s.ints Rb.out.i.ints Rb.out.s.ints).mono ?_
            rw [sameWo_refl]
            try dsimp only
            rintro e U17 ⟨rfl, bU17⟩
            clear qZ_0 qZ_1 lZ qP_0 qP_1 lP
            replace KD := Lib.hid (KD.out.below bU17 KD.out.lt)
            replace KN := Lib.hid (KN.out.below bU17 KN.out.lt)
            replace KP := Lib.hid (KP.out.below bU17 KP.out.lt)
            replace KQ := Lib.hid (KQ.out.below bU17 KQ.out.lt)
            replace KY := Lib.hid (KY.out.below bU17 KY.out.lt)
            replace KX := Lib.hid (KX.out.below bU17 KX.out.lt)
            replace KZ := Lib.hid (KZ.out.below bU17 KZ.out.lt)
            replace Ra := Lib.hid (Ra.out.below bU17)
            replace Rb := Lib.hid (Rb.out.below bU17)
            replace Rc := Lib.hid (Rc.out.below bU17)
            replace Rp := Lib.hid (Rp.out.below bU17)
            replace Rf := Lib.hid (Rf.out.below bU17)
            replace Rg := Lib.hid (Rg.out.below bU17)
            replace BB := Lib.hid (below3 BB.out bU17)
            clear bU17
            go_wp2_with fail
            go_ret
            exact ⟨rfl, BB.out⟩
          · obtain ⟨i3, hp1, hp2, hp3⟩ := hpk
            have HP := Lib.hid hp1
            have HPF := Lib.hid hp2
            have HPW := Lib.hid hp3
            clear hp1 hp2 hp3
            have tz : (z == 0) = false := by simp; omega
            clear hz0
            have t0 : decide (100 < (n : Int)) = false := decide_eq_false (by omega)
            have HK := Lib.hid fun U hU => check_wo (some ⟨bS, o, none⟩) B n a m b is st U (hi.below hU) (hs.below hU)
            have HE : Hid (chkWo is st = 0) := Lib.hid (if_pos hok)
            have HQ := Lib.hid fun U hU => ann_wo (some ⟨bS, o, none⟩) B n a m b is st (j : Int) U (hi.below hU) (hs.below hU)
            clear hi hs hok hann hA hF hW hsame hn1 hin1 ok1 hlast h1 h2 h3 f4 hz1 hjst hz
            obtain ⟨kb0, hb0⟩ := lay1 w #[.slice (some ⟨bS, o, none⟩) n a, .slice B m b] 24
            obtain ⟨V, hV⟩ : ∃ V, w.alloc (.cells #[.slice (some ⟨bS, o, none⟩) n a, .slice B m b] 24) = V := ⟨_, rfl⟩
            rw [hV] at hb0 kb0
            have HV := Lib.hid hV
            have BB := Lib.hid hb0
            have KD := Lib.hid kb0
            have HBD : Hid (w.heap.size ≤ w.heap.size) := Lib.hid (by omega)
            clear hV hb0 kb0
            go_enter Try.func4, Try.ntmps4
            go_upto_region 1 with fail
            rw [HV.out]
            clear HV
            go_wp2_with fail
            refine (live_wo _).mono ?_
            try dsimp only
            rintro e U1 ⟨rfl, bU1⟩
            replace KD := Lib.hid (KD.out.below bU1 KD.out.lt)
            replace BB := Lib.hid (below3 BB.out bU1)
            clear bU1
            obtain ⟨qD_0, qD_1⟩ := KD.out.c2w
            have lD := KD.out.lt
            go_wp2_with fail
            refine (HK.out _ BB.out).mono ?_
            rw [HE.out]
            try dsimp only
            rintro e U2 ⟨rfl, bU2⟩
            clear qD_0 qD_1 lD
            replace KD := Lib.hid (KD.out.below bU2 KD.out.lt)
            replace BB := Lib.hid (below3 BB.out bU2)
            clear bU2
            clear HK HE
            obtain ⟨qD_0, qD_1⟩ := KD.out.c2w
            have lD := KD.out.lt
            go_wp2_with fail
            refine (HQ.out _ BB.out).mono ?_
            rw [HA.out]
            try dsimp only
            rintro e U3 ⟨Aa, aa, Ba, ba, he, ow, bU3⟩
            try dsimp only at he ow
            subst he
            clear qD_0 qD_1 lD
            have LD_a : Hid (w.heap.size < U2.heap.size) := Lib.hid KD.out.lt
            have HBBa : Hid (w.heap.size ≤ U2.heap.size) := Lib.hid BB.out.size
            have HSZa : Hid (U2.heap.size ≤ U3.heap.size) := Lib.hid bU3.size
            have Ra := Lib.hid ow
            clear ow
            replace KD := Lib.hid (KD.out.below bU3 KD.out.lt)
            replace BB := Lib.hid (below3 BB.out bU3)
            clear bU3
            have kt := Bk.new U3 24 #[.slice Aa i1.length aa, .slice Ba s1.length ba]
            have ba := (Below.refl U3.heap.size U3).alloc (Nat.le_refl _) (.cells #[.slice Aa i1.length aa, .slice Ba s1.length ba] 24)
            have oD := KD.out.lt
            have hgb := BB.out.size
            replace KD := Lib.hid (KD.out.below ba KD.out.lt)
            replace Ra := Lib.hid (Ra.out.below ba)
            replace BB := Lib.hid (below3 BB.out ba)
            clear ba
            obtain ⟨W4, hW⟩ : ∃ W, U3.alloc (.cells #[.slice Aa i1.length aa, .slice Ba s1.length ba] 24) = W := ⟨_, rfl⟩
            obtain ⟨gN, hg⟩ : ∃ g, U3.heap.size = g := ⟨_, rfl⟩
            rw [hW] at kt BB KD Ra
            rw [hg] at kt hgb oD HSZa
            have HW := Lib.hid hW
            have HG := Lib.hid hg
            have KN := Lib.hid kt
            have HBN := Lib.hid hgb
            have OD_N := Lib.hid oD
            clear hW hg kt hgb oD
            go_upto_region 7 with fail
            rw [HW.out]
            try rw [HG.out]
            clear HW HG
            clear HQ
            obtain ⟨qN_0, qN_1⟩ := KN.out.c2w
            have lN := KN.out.lt
            go_upto_region 9 with fail
            clear qN_0 qN_1 lN
            obtain ⟨qN_0, qN_1⟩ := KN.out.c2w
            have lN := KN.out.lt
            go_wp2_with fail
            refine (found_wo Aa Ba i1.length aa s1.length ba i1 s1 (j : Int) _ Ra.out.i.ints Ra.out.s.ints).mono ?_
            rw [HF.out]
            try dsimp only
            rintro e U5 ⟨Ab, ab, Bb, bb, he, ow, bU5⟩
            try dsimp only at he ow
            subst he
            clear qN_0 qN_1 lN
            have LD_b : Hid (w.heap.size < W4.heap.size) := Lib.hid KD.out.lt
            have LN_b : Hid (gN < W4.heap.size) := Lib.hid KN.out.lt
            have HBBb : Hid (w.heap.size ≤ W4.heap.size) := Lib.hid BB.out.size
            have HSZb : Hid (W4.heap.size ≤ U5.heap.size) := Lib.hid bU5.size
            have Rb := Lib.hid ow
            clear ow
            replace KD := Lib.hid (KD.out.below bU5 KD.out.lt)
            replace KN := Lib.hid (KN.out.below bU5 KN.out.lt)
            replace Ra := Lib.hid (Ra.out.below bU5)
            replace BB := Lib.hid (below3 BB.out bU5)
            clear bU5
            have kt := Bk.new U5 24 #[.slice Ab i2.length ab, .slice Bb st.length bb]
            have ba := (Below.refl U5.heap.size U5).alloc (Nat.le_refl _) (.cells #[.slice Ab i2.length ab, .slice Bb st.length bb] 24)
            have oD := KD.out.lt
            have oN := KN.out.lt
            have hgb := BB.out.size
            replace KD := Lib.hid (KD.out.below ba KD.out.lt)
            replace KN := Lib.hid (KN.out.below ba KN.out.lt)
            replace Ra := Lib.hid (Ra.out.below ba)
            replace Rb := Lib.hid (Rb.out.below ba)
            replace BB := Lib.hid (below3 BB.out ba)
            clear ba
            obtain ⟨W6, hW⟩ : ∃ W, U5.alloc (.cells #[.slice Ab i2.length ab, .slice Bb st.length bb] 24) = W := ⟨_, rfl⟩
            obtain ⟨gP, hg⟩ : ∃ g, U5.heap.size = g := ⟨_, rfl⟩
            rw [hW] at kt BB KD KN Ra Rb
            rw [hg] at kt hgb oD oN HSZb
            have HW := Lib.hid hW
            have HG := Lib.hid hg
            have KP := Lib.hid kt
            have HBP := Lib.hid hgb
            have OD_P := Lib.hid oD
            have ON_P := Lib.hid oN
            clear hW hg kt hgb oD oN
            go_upto_region 10 with fail
            rw [HW.out]
            try rw [HG.out]
            clear HW HG
            obtain ⟨qN_0, qN_1⟩ := KN.out.c2w
            have lN := KN.out.lt
            go_wp2_with fail
            refine (wake_wo Aa Ba i1.length aa s1.length ba i1 s1 _ Ra.out.i.ints Ra.out.s.ints).mono ?_
            rw [HW0.out]
            try dsimp only
            rintro e U7 ⟨Ac, ac, Bc, bc, he, ow, bU7⟩
            try dsimp only at he ow
            subst he
            clear qN_0 qN_1 lN
            have LD_c : Hid (w.heap.size < W6.heap.size) := Lib.hid KD.out.lt
            have LN_c : Hid (gN < W6.heap.size) := Lib.hid KN.out.lt
            have LP_c : Hid (gP < W6.heap.size) := Lib.hid KP.out.lt
            have HBBc : Hid (w.heap.size ≤ W6.heap.size) := Lib.hid BB.out.size
            have HSZc : Hid (W6.heap.size ≤ U7.heap.size) := Lib.hid bU7.size
            have Rc := Lib.hid ow
            clear ow
            replace KD := Lib.hid (KD.out.below bU7 KD.out.lt)
            replace KN := Lib.hid (KN.out.below bU7 KN.out.lt)
            replace KP := Lib.hid (KP.out.below bU7 KP.out.lt)
            replace Ra := Lib.hid (Ra.out.below bU7)
            replace Rb := Lib.hid (Rb.out.below bU7)
            replace BB := Lib.hid (below3 BB.out bU7)
            clear bU7
            have kt := Bk.new U7 24 #[.slice Ac i2.length ac, .slice Bc st.length bc]
            have ba := (Below.refl U7.heap.size U7).alloc (Nat.le_refl _) (.cells #[.slice Ac i2.length ac, .slice Bc st.length bc] 24)
            have oD := KD.out.lt
            have oN := KN.out.lt
            have oP := KP.out.lt
            have hgb := BB.out.size
            replace KD := Lib.hid (KD.out.below ba KD.out.lt)
            replace KN := Lib.hid (KN.out.below ba KN.out.lt)
            replace KP := Lib.hid (KP.out.below ba KP.out.lt)
            replace Ra := Lib.hid (Ra.out.below ba)
            replace Rb := Lib.hid (Rb.out.below ba)
            replace Rc := Lib.hid (Rc.out.below ba)
            replace BB := Lib.hid (below3 BB.out ba)
            clear ba
            obtain ⟨W8, hW⟩ : ∃ W, U7.alloc (.cells #[.slice Ac i2.length ac, .slice Bc st.length bc] 24) = W := ⟨_, rfl⟩
            obtain ⟨gQ, hg⟩ : ∃ g, U7.heap.size = g := ⟨_, rfl⟩
            rw [hW] at kt BB KD KN KP Ra Rb Rc
            rw [hg] at kt hgb oD oN oP HSZc
            have HW := Lib.hid hW
            have HG := Lib.hid hg
            have KQ := Lib.hid kt
            have HBQ := Lib.hid hgb
            have OD_Q := Lib.hid oD
            have ON_Q := Lib.hid oN
            have OP_Q := Lib.hid oP
            clear hW hg kt hgb oD oN oP
            go_upto_region 11 with fail
            rw [HW.out]
            try rw [HG.out]
            clear HW HG
            obtain ⟨qP_0, qP_1⟩ := KP.out.c2w
            have lP := KP.out.lt
            obtain ⟨qQ_0, qQ_1⟩ := KQ.out.c2w
            have lQ := KQ.out.lt
            obtain ⟨qD_0, qD_1⟩ := KD.out.c2w
            have lD := KD.out.lt
            go_wp2_with fail
            refine (same_wo Ab Bb Ac Bc i2.length ab st.length bb i2.length ac st.length bc i2 st i2 st _ Rb.out.i.ints Rb.out.s.ints Rc.out.i.ints Rc.out.s.ints).mono ?_
            rw [sameWo_refl]
            try dsimp only
            rintro e U9 ⟨rfl, bU9⟩
            clear qP_0 qP_1 lP qQ_0 qQ_1 lQ qD_0 qD_1 lD
            replace KD := Lib.hid (KD.out.below bU9 KD.out.lt)
            replace KN := Lib.hid (KN.out.below bU9 KN.out.lt)
            replace KP := Lib.hid (KP.out.below bU9 KP.out.lt)
            replace KQ := Lib.hid (KQ.out.below bU9 KQ.out.lt)
            replace Ra := Lib.hid (Ra.out.below bU9)
            replace Rb := Lib.hid (Rb.out.below bU9)
            replace Rc := Lib.hid (Rc.out.below bU9)
            replace BB := Lib.hid (below3 BB.out bU9)
            clear bU9
            obtain ⟨qD_0, qD_1⟩ := KD.out.c2w
            have lD := KD.out.lt
            go_upto_region 13 with fail
            clear qD_0 qD_1 lD
            obtain ⟨qP_0, qP_1⟩ := KP.out.c2w
            have lP := KP.out.lt
            obtain ⟨qD_0, qD_1⟩ := KD.out.c2w
            have lD := KD.out.lt
            have c1 := (BB.out.cell (p := ⟨bS, o + j, none⟩) hb).trans c0
            have lb := Nat.lt_of_lt_of_le hb BB.out.size
            go_upto_region 15 with fail
            clear qP_0 qP_1 lP qD_0 qD_1 lD c1 lb
            obtain ⟨qN_0, qN_1⟩ := KN.out.c2w
            have lN := KN.out.lt
            go_wp2_with fail
            refine (park_wo Aa Ba i1.length aa s1.length ba i1 s1 (j : Int) _ Ra.out.i.ints Ra.out.s.ints).mono ?_
            rw [HP.out]
            try dsimp only
            rintro e U10 ⟨Ap, ap, Bp, bp, he, ow, bU10⟩
            try dsimp only at he ow
            subst he
            clear qN_0 qN_1 lN
            have LD_p : Hid (w.heap.size < U9.heap.size) := Lib.hid KD.out.lt
            have LN_p : Hid (gN < U9.heap.size) := Lib.hid KN.out.lt
            have LP_p : Hid (gP < U9.heap.size) := Lib.hid KP.out.lt
            have LQ_p : Hid (gQ < U9.heap.size) := Lib.hid KQ.out.lt
            have HBBp : Hid (w.heap.size ≤ U9.heap.size) := Lib.hid BB.out.size
            have HSZp : Hid (U9.heap.size ≤ U10.heap.size) := Lib.hid bU10.size
            have Rp := Lib.hid ow
            clear ow
            replace KD := Lib.hid (KD.out.below bU10 KD.out.lt)
            replace KN := Lib.hid (KN.out.below bU10 KN.out.lt)
            replace KP := Lib.hid (KP.out.below bU10 KP.out.lt)
            replace KQ := Lib.hid (KQ.out.below bU10 KQ.out.lt)
            replace Ra := Lib.hid (Ra.out.below bU10)
            replace Rb := Lib.hid (Rb.out.below bU10)
            replace Rc := Lib.hid (Rc.out.below bU10)
            replace BB := Lib.hid (below3 BB.out bU10)
            clear bU10
            have kt := Bk.new U10 24 #[.slice Ap i3.length ap, .slice Bp s1.length bp]
            have ba := (Below.refl U10.heap.size U10).alloc (Nat.le_refl _) (.cells #[.slice Ap i3.length ap, .slice Bp s1.length bp] 24)
            have oD := KD.out.lt
            have oN := KN.out.lt
            have oP := KP.out.lt
            have oQ := KQ.out.lt
            have hgb := BB.out.size
            replace KD := Lib.hid (KD.out.below ba KD.out.lt)
            replace KN := Lib.hid (KN.out.below ba KN.out.lt)
            replace KP := Lib.hid (KP.out.below ba KP.out.lt)
            replace KQ := Lib.hid (KQ.out.below ba KQ.out.lt)
            replace Ra := Lib.hid (Ra.out.below ba)
            replace Rb := Lib.hid (Rb.out.below ba)
            replace Rc := Lib.hid (Rc.out.below ba)
            replace Rp := Lib.hid (Rp.out.below ba)
            replace BB := Lib.hid (below3 BB.out ba)
            clear ba
            obtain ⟨W11, hW⟩ : ∃ W, U10.alloc (.cells #[.slice Ap i3.length ap, .slice Bp s1.length bp] 24) = W := ⟨_, rfl⟩
            obtain ⟨gY, hg⟩ : ∃ g, U10.heap.size = g := ⟨_, rfl⟩
            rw [hW] at kt BB KD KN KP KQ Ra Rb Rc Rp
            rw [hg] at kt hgb oD oN oP oQ HSZp
            have HW := Lib.hid hW
            have HG := Lib.hid hg
            have KY := Lib.hid kt
            have HBY := Lib.hid hgb
            have OD_Y := Lib.hid oD
            have ON_Y := Lib.hid oN
            have OP_Y := Lib.hid oP
            have OQ_Y := Lib.hid oQ
            clear hW hg kt hgb oD oN oP oQ
            go_upto_region 16 with fail
            rw [HW.out]
            try rw [HG.out]
            clear HW HG
            go_upto_region 18 with fail
            obtain ⟨qY_0, qY_1⟩ := KY.out.c2w
            have lY := KY.out.lt
            go_wp2_with fail
            refine (found_wo Ap Bp i3.length ap s1.length bp i3 s1 (j : Int) _ Rp.out.i.ints Rp.out.s.ints).mono ?_
            rw [HPF.out]
            try dsimp only
            rintro e U12 ⟨Af, af, Bf, bf, he, ow, bU12⟩
            try dsimp only at he ow
            subst he
            clear qY_0 qY_1 lY
            have LD_f : Hid (w.heap.size < W11.heap.size) := Lib.hid KD.out.lt
            have LN_f : Hid (gN < W11.heap.size) := Lib.hid KN.out.lt
            have LP_f : Hid (gP < W11.heap.size) := Lib.hid KP.out.lt
            have LQ_f : Hid (gQ < W11.heap.size) := Lib.hid KQ.out.lt
            have LY_f : Hid (gY < W11.heap.size) := Lib.hid KY.out.lt
            have HBBf : Hid (w.heap.size ≤ W11.heap.size) := Lib.hid BB.out.size
            have HSZf : Hid (W11.heap.size ≤ U12.heap.size) := Lib.hid bU12.size
            have Rf := Lib.hid ow
            clear ow
            replace KD := Lib.hid (KD.out.below bU12 KD.out.lt)
            replace KN := Lib.hid (KN.out.below bU12 KN.out.lt)
            replace KP := Lib.hid (KP.out.below bU12 KP.out.lt)
            replace KQ := Lib.hid (KQ.out.below bU12 KQ.out.lt)
            replace KY := Lib.hid (KY.out.below bU12 KY.out.lt)
            replace Ra := Lib.hid (Ra.out.below bU12)
            replace Rb := Lib.hid (Rb.out.below bU12)
            replace Rc := Lib.hid (Rc.out.below bU12)
            replace Rp := Lib.hid (Rp.out.below bU12)
            replace BB := Lib.hid (below3 BB.out bU12)
            clear bU12
            have kt := Bk.new U12 24 #[.slice Af 0 af, .slice Bf 0 bf]
            have ba := (Below.refl U12.heap.size U12).alloc (Nat.le_refl _) (.cells #[.slice Af 0 af, .slice Bf 0 bf] 24)
            have oD := KD.out.lt
            have oN := KN.out.lt
            have oP := KP.out.lt
            have oQ := KQ.out.lt
            have oY := KY.out.lt
            have hgb := BB.out.size
            replace KD := Lib.hid (KD.out.below ba KD.out.lt)
            replace KN := Lib.hid (KN.out.below ba KN.out.lt)
            replace KP := Lib.hid (KP.out.below ba KP.out.lt)
            replace KQ := Lib.hid (KQ.out.below ba KQ.out.lt)
            replace KY := Lib.hid (KY.out.below ba KY.out.lt)
            replace Ra := Lib.hid (Ra.out.below ba)
            replace Rb := Lib.hid (Rb.out.below ba)
            replace Rc := Lib.hid (Rc.out.below ba)
            replace Rp := Lib.hid (Rp.out.below ba)
            replace Rf := Lib.hid (Rf.out.below ba)
            replace BB := Lib.hid (below3 BB.out ba)
            clear ba
            obtain ⟨W13, hW⟩ : ∃ W, U12.alloc (.cells #[.slice Af 0 af, .slice Bf 0 bf] 24) = W := ⟨_, rfl⟩
            obtain ⟨gX, hg⟩ : ∃ g, U12.heap.size = g := ⟨_, rfl⟩
            rw [hW] at kt BB KD KN KP KQ KY Ra Rb Rc Rp Rf
            rw [hg] at kt hgb oD oN oP oQ oY HSZf
            have HW := Lib.hid hW
            have HG := Lib.hid hg
            have KX := Lib.hid kt
            have HBX := Lib.hid hgb
            have OD_X := Lib.hid oD
            have ON_X := Lib.hid oN
            have OP_X := Lib.hid oP
            have OQ_X := Lib.hid oQ
            have OY_X := Lib.hid oY
            clear hW hg kt hgb oD oN oP oQ oY
            go_upto_region 19 with fail
            rw [HW.out]
            try rw [HG.out]
            clear HW HG
            obtain ⟨qY_0, qY_1⟩ := KY.out.c2w
            have lY := KY.out.lt
            go_wp2_with fail
            refine (wake_wo Ap Bp i3.length ap s1.length bp i3 s1 _ Rp.out.i.ints Rp.out.s.ints).mono ?_
            rw [HPW.out]
            try dsimp only
            rintro e U14 ⟨Ag, ag, Bg, bg, he, ow, bU14⟩
            try dsimp only at he ow
            subst he
            clear qY_0 qY_1 lY
            have LD_g : Hid (w.heap.size < W13.heap.size) := Lib.hid KD.out.lt
            have LN_g : Hid (gN < W13.heap.size) := Lib.hid KN.out.lt
            have LP_g : Hid (gP < W13.heap.size) := Lib.hid KP.out.lt
            have LQ_g : Hid (gQ < W13.heap.size) := Lib.hid KQ.out.lt
            have LY_g : Hid (gY < W13.heap.size) := Lib.hid KY.out.lt
            have LX_g : Hid (gX < W13.heap.size) := Lib.hid KX.out.lt
            have HBBg : Hid (w.heap.size ≤ W13.heap.size) := Lib.hid BB.out.size
            have HSZg : Hid (W13.heap.size ≤ U14.heap.size) := Lib.hid bU14.size
            have Rg := Lib.hid ow
            clear ow
            replace KD := Lib.hid (KD.out.below bU14 KD.out.lt)
            replace KN := Lib.hid (KN.out.below bU14 KN.out.lt)
            replace KP := Lib.hid (KP.out.below bU14 KP.out.lt)
            replace KQ := Lib.hid (KQ.out.below bU14 KQ.out.lt)
            replace KY := Lib.hid (KY.out.below bU14 KY.out.lt)
            replace KX := Lib.hid (KX.out.below bU14 KX.out.lt)
            replace Ra := Lib.hid (Ra.out.below bU14)
            replace Rb := Lib.hid (Rb.out.below bU14)
            replace Rc := Lib.hid (Rc.out.below bU14)
            replace Rp := Lib.hid (Rp.out.below bU14)
            replace Rf := Lib.hid (Rf.out.below bU14)
            replace BB := Lib.hid (below3 BB.out bU14)
            clear bU14
            have kt := Bk.new U14 24 #[.slice Ag i2.length ag, .slice Bg st.length bg]
            have ba := (Below.refl U14.heap.size U14).alloc (Nat.le_refl _) (.cells #[.slice Ag i2.length ag, .slice Bg st.length bg] 24)
            have oD := KD.out.lt
            have oN := KN.out.lt
            have oP := KP.out.lt
            have oQ := KQ.out.lt
            have oY := KY.out.lt
            have oX := KX.out.lt
            have hgb := BB.out.size
            replace KD := Lib.hid (KD.out.below ba KD.out.lt)
            replace KN := Lib.hid (KN.out.below ba KN.out.lt)
            replace KP := Lib.hid (KP.out.below ba KP.out.lt)
            replace KQ := Lib.hid (KQ.out.below ba KQ.out.lt)
            replace KY := Lib.hid (KY.out.below ba KY.out.lt)
            replace KX := Lib.hid (KX.out.below ba KX.out.lt)
            replace Ra := Lib.hid (Ra.out.below ba)
            replace Rb := Lib.hid (Rb.out.below ba)
            replace Rc := Lib.hid (Rc.out.below ba)
            replace Rp := Lib.hid (Rp.out.below ba)
            replace Rf := Lib.hid (Rf.out.below ba)
            replace Rg := Lib.hid (Rg.out.below ba)
            replace BB := Lib.hid (below3 BB.out ba)
            clear ba
            obtain ⟨W15, hW⟩ : ∃ W, U14.alloc (.cells #[.slice Ag i2.length ag, .slice Bg st.length bg] 24) = W := ⟨_, rfl⟩
            obtain ⟨gZ, hg⟩ : ∃ g, U14.heap.size = g := ⟨_, rfl⟩
            rw [hW] at kt BB KD KN KP KQ KY KX Ra Rb Rc Rp Rf Rg
            rw [hg] at kt hgb oD oN oP oQ oY oX HSZg
            have HW := Lib.hid hW
            have HG := Lib.hid hg
            have KZ := Lib.hid kt
            have HBZ := Lib.hid hgb
            have OD_Z := Lib.hid oD
            have ON_Z := Lib.hid oN
            have OP_Z := Lib.hid oP
            have OQ_Z := Lib.hid oQ
            have OY_Z := Lib.hid oY
            have OX_Z := Lib.hid oX
            clear hW hg kt hgb oD oN oP oQ oY oX
            go_upto_region 20 with fail
            rw [HW.out]
            try rw [HG.out]
            clear HW HG
            obtain ⟨qZ_0, qZ_1⟩ := KZ.out.c2w
            have lZ := KZ.out.lt
            obtain ⟨qP_0, qP_1⟩ := KP.out.c2w
            have lP := KP.out.lt
            go_wp2_with fail
            refine (same_wo Ag Bg Ab Bb i2.length ag st.length bg i2.length ab st.length bb i2 st i2 st _ Rg.out.i.ints Rg.out.s.ints Rb.out.i.ints Rb.out.s.ints).mono ?_
            rw [sameWo_refl]
            try dsimp only
            rintro e U16 ⟨rfl, bU16⟩
            clear qZ_0 qZ_1 lZ qP_0 qP_1 lP
            replace KD := Lib.hid (KD.out.below bU16 KD.out.lt)
            replace KN := Lib.hid (KN.out.below bU16 KN.out.lt)
            replace KP := Lib.hid (KP.out.below bU16 KP.out.lt)
            replace KQ := Lib.hid (KQ.out.below bU16 KQ.out.lt)
            replace KY := Lib.hid (KY.out.below bU16 KY.out.lt)
            replace KX := Lib.hid (KX.out.below bU16 KX.out.lt)
            replace KZ := Lib.hid (KZ.out.below bU16 KZ.out.lt)
            replace Ra := Lib.hid (Ra.out.below bU16)
            replace Rb := Lib.hid (Rb.out.below bU16)
            replace Rc := Lib.hid (Rc.out.below bU16)
            replace Rp := Lib.hid (Rp.out.below bU16)
            replace Rf := Lib.hid (Rf.out.below bU16)
            replace Rg := Lib.hid (Rg.out.below bU16)
            replace BB := Lib.hid (below3 BB.out bU16)
            clear bU16
            go_wp2_with fail
            go_ret
            exact ⟨rfl, BB.out⟩
      · have t0 : decide (100 < (n : Int)) = false := decide_eq_false (by omega)
        have HK := Lib.hid fun U hU => check_wo A B n a m b is st U (hi.below hU) (hs.below hU)
        have HE : Hid (chkWo is st = 0) := Lib.hid (if_pos hok)
        obtain ⟨s0, hs0⟩ : ∃ l : List Int, [] = l := ⟨_, rfl⟩
        obtain ⟨er, hne, hA⟩ : ∃ er : Int, (er != 0) = true ∧ annWo is st i = ([], [], er) := by
          unfold annWo
          by_cases hin : inWo is st i
          · rw [if_pos hin, if_neg (fun q => hann ⟨hin, q⟩)]; exact ⟨9, rfl, rfl⟩
          · rw [if_neg hin]; exact ⟨1, rfl, rfl⟩
        have HA := Lib.hid hA
        have HQ := Lib.hid fun U hU => ann_wo A B n a m b is st i U (hi.below hU) (hs.below hU)
        clear hi hs hok hann hA hs0 s0
        obtain ⟨kb0, hb0⟩ := lay1 w #[.slice A n a, .slice B m b] 24
        obtain ⟨V, hV⟩ : ∃ V, w.alloc (.cells #[.slice A n a, .slice B m b] 24) = V := ⟨_, rfl⟩
        rw [hV] at hb0 kb0
        have HV := Lib.hid hV
        have BB := Lib.hid hb0
        have KD := Lib.hid kb0
        have HBD : Hid (w.heap.size ≤ w.heap.size) := Lib.hid (by omega)
        clear hV hb0 kb0
        go_enter Try.func4, Try.ntmps4
        go_upto_region 1 with fail
        rw [HV.out]
        clear HV
        go_wp2_with fail
        refine (live_wo _).mono ?_
        try dsimp only
        rintro e U1 ⟨rfl, bU1⟩
        replace KD := Lib.hid (KD.out.below bU1 KD.out.lt)
        replace BB := Lib.hid (below3 BB.out bU1)
        clear bU1
        obtain ⟨qD_0, qD_1⟩ := KD.out.c2w
        have lD := KD.out.lt
        go_wp2_with fail
        refine (HK.out _ BB.out).mono ?_
        rw [HE.out]
        try dsimp only
        rintro e U2 ⟨rfl, bU2⟩
        clear qD_0 qD_1 lD
        replace KD := Lib.hid (KD.out.below bU2 KD.out.lt)
        replace BB := Lib.hid (below3 BB.out bU2)
        clear bU2
        clear HK HE
        obtain ⟨qD_0, qD_1⟩ := KD.out.c2w
        have lD := KD.out.lt
        go_wp2_with fail
        refine (HQ.out _ BB.out).mono ?_
        rw [HA.out]
        try dsimp only
        rintro e U3 ⟨Aa, aa, Ba, ba, he, ow, bU3⟩
        try dsimp only at he ow
        subst he
        clear qD_0 qD_1 lD
        have LD_a : Hid (w.heap.size < U2.heap.size) := Lib.hid KD.out.lt
        have HBBa : Hid (w.heap.size ≤ U2.heap.size) := Lib.hid BB.out.size
        have HSZa : Hid (U2.heap.size ≤ U3.heap.size) := Lib.hid bU3.size
        have Ra := Lib.hid ow
        clear ow
        replace KD := Lib.hid (KD.out.below bU3 KD.out.lt)
        replace BB := Lib.hid (below3 BB.out bU3)
        clear bU3
        have kt := Bk.new U3 24 #[.slice Aa 0 aa, .slice Ba 0 ba]
        have ba := (Below.refl U3.heap.size U3).alloc (Nat.le_refl _) (.cells #[.slice Aa 0 aa, .slice Ba 0 ba] 24)
        have oD := KD.out.lt
        have hgb := BB.out.size
        replace KD := Lib.hid (KD.out.below ba KD.out.lt)
        replace Ra := Lib.hid (Ra.out.below ba)
        replace BB := Lib.hid (below3 BB.out ba)
        clear ba
        obtain ⟨W4, hW⟩ : ∃ W, U3.alloc (.cells #[.slice Aa 0 aa, .slice Ba 0 ba] 24) = W := ⟨_, rfl⟩
        obtain ⟨gN, hg⟩ : ∃ g, U3.heap.size = g := ⟨_, rfl⟩
        rw [hW] at kt BB KD Ra
        rw [hg] at kt hgb oD HSZa
        have HW := Lib.hid hW
        have HG := Lib.hid hg
        have KN := Lib.hid kt
        have HBN := Lib.hid hgb
        have OD_N := Lib.hid oD
        clear hW hg kt hgb oD
        go_upto_region 7 with fail
        rw [HW.out]
        try rw [HG.out]
        clear HW HG
        obtain ⟨qN_0, qN_1⟩ := KN.out.c2w
        have lN := KN.out.lt
        go_wp2_with fail
        go_ret
        exact ⟨rfl, BB.out⟩
    · have t0 : decide (100 < (n : Int)) = false := decide_eq_false (by omega)
      have HK := Lib.hid fun U hU => check_wo A B n a m b is st U (hi.below hU) (hs.below hU)
      have HE : Hid (chkWo is st = 1) := Lib.hid (if_neg hok)
      clear hi hs hok
      obtain ⟨kb0, hb0⟩ := lay1 w #[.slice A n a, .slice B m b] 24
      obtain ⟨V, hV⟩ : ∃ V, w.alloc (.cells #[.slice A n a, .slice B m b] 24) = V := ⟨_, rfl⟩
      rw [hV] at hb0 kb0
      have HV := Lib.hid hV
      have BB := Lib.hid hb0
      have KD := Lib.hid kb0
      have HBD : Hid (w.heap.size ≤ w.heap.size) := Lib.hid (by omega)
      clear hV hb0 kb0
      go_enter Try.func4, Try.ntmps4
      go_upto_region 1 with fail
      rw [HV.out]
      clear HV
      go_wp2_with fail
      refine (live_wo _).mono ?_
      try dsimp only
      rintro e U1 ⟨rfl, bU1⟩
      replace KD := Lib.hid (KD.out.below bU1 KD.out.lt)
      replace BB := Lib.hid (below3 BB.out bU1)
      clear bU1
      obtain ⟨qD_0, qD_1⟩ := KD.out.c2w
      have lD := KD.out.lt
      go_wp2_with fail
      refine (HK.out _ BB.out).mono ?_
      rw [HE.out]
      try dsimp only
      rintro e U2 ⟨rfl, bU2⟩
      clear qD_0 qD_1 lD
      replace KD := Lib.hid (KD.out.below bU2 KD.out.lt)
      replace BB := Lib.hid (below3 BB.out bU2)
      clear bU2
      go_wp2_with fail
      go_ret
      exact ⟨rfl, BB.out⟩

end Go.Proofs.Ytmndkofdoclihaa

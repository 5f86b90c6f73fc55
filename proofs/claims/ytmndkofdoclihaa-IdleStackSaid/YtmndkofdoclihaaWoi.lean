/-
  Layer 17, the document: Spin, Found, Announce, Park, Wake.
-/
import Derived.Test.YtmndkofdoclihaaWog
namespace Go.Proofs.Ytmndkofdoclihaa
open Go.RowKit

set_option maxHeartbeats 4000000 in
theorem rspin_wo (A B : Option Addr) (n a m b : Nat) (is st : List Int) (i : Int) (w : World) (hi : Ints w A n is) (hs : Ints w B m st) :
    Calls Try.prog 12 #[.agg #[.slice A n a, .slice B m b], .int .i64 i] w (YesW (spinWo is st i) w) := by
  by_cases hin : inWo is st i
  · obtain ⟨j, rfl⟩ := Int.eq_ofNat_of_zero_le hin.2.1
    have hjl : j < is.length := by have := hin.2.2; omega
    have hjn : j < n := by have := hi.1; omega
    have h03 := fours_at hin.1.2.1 hjl
    have hn64 : is.length ≤ 64 := hin.1.1.2
    obtain ⟨z, hz⟩ : ∃ z, nth is j = z := ⟨_, rfl⟩
    have hzj : nth is ((j : Nat) : Int).toNat = z := by rw [Int.toNat_natCast]; exact hz
    obtain ⟨bS, o, rfl, hb, c0⟩ := hi.at_bt hjn
    rw [hz] at c0
    have HQ := Lib.hid fun U hU => in_wo (some ⟨bS, o, none⟩) B n a m b is st (j : Int) U (hi.below hU) (hs.below hU)
    have HD := Lib.hid (decide_eq_true hin)
    by_cases h0 : z = 0
    · by_cases hfit : fitsWo (is.set j 1)
      · obtain ⟨i1, hi1⟩ : ∃ l, is.set j 1 = l := ⟨_, rfl⟩
        have HI1 := Lib.hid hi1
        have hl1 : i1.length = is.length := by rw [← hi1, List.length_set]
        have HW0 := Lib.hid fun U hU => with_wo (some ⟨bS, o, none⟩) B n a m b is st j 1 U (by have := hi.1; omega) (by unfold Fit; omega) (hi.below hU) (hs.below hU)
        have hd : decide (fitsWo i1) = true := decide_eq_true (by rw [← hi1]; exact hfit)
        have HF := Lib.hid fun (A0 : Option Addr) (c0 : Nat) U hx => fits_wo A0 i1.length c0 i1 U (by omega) hx
        rw [hd] at HF
        have HCP := Lib.hid fun U hU => copy_wo (some ⟨bS, o, none⟩) B n a m b is st U (hi.below hU) (hs.below hU)
        rw [show spinWo is st (j : Int) = (true, i1, st, 0) from by unfold spinWo; rw [if_pos hin, if_pos (hzj.trans h0), Int.toNat_natCast, if_pos hfit, hi1]]
        have t0 : (z == 0) = true := by simp; omega
        clear hin hi hs hz hzj hi1 hd hfit hl1 h0
        obtain ⟨kb0, kb1, hb0⟩ := lies2 w #[.slice (some ⟨bS, o, none⟩) n a, .slice B m b] #[.slice none 0 0, .slice none 0 0] 24 24
        obtain ⟨V, hV⟩ : ∃ V, (w.alloc (.cells #[.slice (some ⟨bS, o, none⟩) n a, .slice B m b] 24)).alloc (.cells #[.slice none 0 0, .slice none 0 0] 24) = V := ⟨_, rfl⟩
        rw [hV] at hb0 kb0 kb1
        have HV := Lib.hid hV
        have BB := Lib.hid hb0
        have KD := Lib.hid kb0
        have HBD : Hid (w.heap.size ≤ w.heap.size) := Lib.hid (by omega)
        have KR := Lib.hid kb1
        have HBR : Hid (w.heap.size ≤ (w.heap.size + 1)) := Lib.hid (by omega)
        have OD_R : Hid (w.heap.size < (w.heap.size + 1)) := Lib.hid (by omega)
        clear hV hb0 kb0 kb1
        go_enter Try.func12, Try.ntmps12
        go_upto_region 1 with fail
        rw [HV.out]
        clear HV
        obtain ⟨qD_0, qD_1⟩ := KD.out.c2w
        have lD := KD.out.lt
        go_wp2_with fail
        refine (HQ.out _ BB.out).mono ?_
        rw [HD.out]
        try dsimp only
        rintro e U1 ⟨rfl, bU1⟩
        clear qD_0 qD_1 lD
        replace KD := Lib.hid (KD.out.below bU1 KD.out.lt)
        replace KR := Lib.hid (KR.out.below bU1 KR.out.lt)
        replace BB := Lib.hid (below3 BB.out bU1)
        clear bU1
        clear HQ HD
        obtain ⟨qD_0, qD_1⟩ := KD.out.c2w
        have lD := KD.out.lt
        have c1 := (BB.out.cell (p := ⟨bS, o + j, none⟩) hb).trans c0
        have lb := Nat.lt_of_lt_of_le hb BB.out.size
        go_upto_region 5 with fail
        clear qD_0 qD_1 lD c1 lb
        obtain ⟨qD_0, qD_1⟩ := KD.out.c2w
        have lD := KD.out.lt
        go_wp2_with fail
        refine (HW0.out _ BB.out).mono ?_
        rw [HI1.out]
        try dsimp only
        rintro e U2 ⟨Ac, ac, Bc, bc, he, ow, bU2⟩
        try dsimp only at he ow
        subst he
        clear qD_0 qD_1 lD
        have LD_c : Hid (w.heap.size < U1.heap.size) := Lib.hid KD.out.lt
        have LR_c : Hid ((w.heap.size + 1) < U1.heap.size) := Lib.hid KR.out.lt
        have HBBc : Hid (w.heap.size ≤ U1.heap.size) := Lib.hid BB.out.size
        have HSZc : Hid (U1.heap.size ≤ U2.heap.size) := Lib.hid bU2.size
        have Rc := Lib.hid ow
        clear ow
        replace KD := Lib.hid (KD.out.below bU2 KD.out.lt)
        replace KR := Lib.hid (KR.out.below bU2 KR.out.lt)
        replace BB := Lib.hid (below3 BB.out bU2)
        clear bU2
        have kt := Bk.new U2 24 #[.slice Ac i1.length ac, .slice Bc st.length bc]
        have ba := (Below.refl U2.heap.size U2).alloc (Nat.le_refl _) (.cells #[.slice Ac i1.length ac, .slice Bc st.length bc] 24)
        have oD := KD.out.lt
        have oR := KR.out.lt
        have hgb := BB.out.size
        replace KD := Lib.hid (KD.out.below ba KD.out.lt)
        replace KR := Lib.hid (KR.out.below ba KR.out.lt)
        replace Rc := Lib.hid (Rc.out.below ba)
        replace BB := Lib.hid (below3 BB.out ba)
        clear ba
        obtain ⟨W3, hW⟩ : ∃ W, U2.alloc (.cells #[.slice Ac i1.length ac, .slice Bc st.length bc] 24) = W := ⟨_, rfl⟩
        obtain ⟨gN, hg⟩ : ∃ g, U2.heap.size = g := ⟨_, rfl⟩
        rw [hW] at kt BB KD KR Rc
        rw [hg] at kt hgb oD oR HSZc
        have HW := Lib.hid hW
        have HG := Lib.hid hg
        have KN := Lib.hid kt
        have HBN := Lib.hid hgb
        have OD_N := Lib.hid oD
        have OR_N := Lib.hid oR
        clear hW hg kt hgb oD oR
        go_upto_region 6 with fail
        rw [HW.out]
        try rw [HG.out]
        clear HW HG
        obtain ⟨qN_0, qN_1⟩ := KN.out.c2w
        have lN := KN.out.lt
        go_wp2_with fail
        refine (HF.out _ _ _ Rc.out.i.ints).mono ?_
        rintro e U4 ⟨rfl, hw⟩
        have hw2 := hw.symm
        subst hw2
        clear hw
        clear HF
        clear HCP
        obtain ⟨qR_0, qR_1⟩ := KR.out.c2w
        have lR := KR.out.lt
        obtain ⟨fR_0, fR_1⟩ := KR.out.f2w
        have B_R := Lib.hid (below_set2w (g := (w.heap.size + 1)) BB.out HBR.out (.slice Ac i1.length ac) (.slice Bc st.length bc))
        have S_R := Lib.hid (bk_set2w KR.out (.slice Ac i1.length ac) (.slice Bc st.length bc))
        have T_R := Lib.hid (ownW_set2 (g := (w.heap.size + 1)) Rc.out LR_c.out (.slice Ac i1.length ac) (.slice Bc st.length bc))
        have HBF := Lib.hid (B_R.out)
        have RR := Lib.hid (T_R.out)
        unfold set2w at HBF RR
        go_upto_region 8 with fail
        go_region
        go_wp2
        obtain ⟨rR_0, rR_1⟩ := (S_R.out.drew).c2w
        unfold set2w at rR_0 rR_1
        exact bodyPost_ret (v := .tuple #[.bool true, .agg #[.slice Ac i1.length ac, .slice Bc st.length bc], .int .i64 0]) (by simp [results, Try.results12, go_sem, rR_0, rR_1]) rfl (⟨Ac, ac, Bc, bc, by simp, (RR.out.below (Below.refl _ _).drew).base_ HBBc.out, HBF.out.drew⟩)
      · obtain ⟨i1, hi1⟩ : ∃ l, is.set j 1 = l := ⟨_, rfl⟩
        have HI1 := Lib.hid hi1
        have hl1 : i1.length = is.length := by rw [← hi1, List.length_set]
        have HW0 := Lib.hid fun U hU => with_wo (some ⟨bS, o, none⟩) B n a m b is st j 1 U (by have := hi.1; omega) (by unfold Fit; omega) (hi.below hU) (hs.below hU)
        have hd : decide (fitsWo i1) = false := decide_eq_false (by rw [← hi1]; exact hfit)
        have HF := Lib.hid fun (A0 : Option Addr) (c0 : Nat) U hx => fits_wo A0 i1.length c0 i1 U (by omega) hx
        rw [hd] at HF
        have HCP := Lib.hid fun U hU => copy_wo (some ⟨bS, o, none⟩) B n a m b is st U (hi.below hU) (hs.below hU)
        rw [show spinWo is st (j : Int) = (false, is, st, 0) from by unfold spinWo; rw [if_pos hin, if_pos (hzj.trans h0), Int.toNat_natCast, if_neg hfit]]
        have t0 : (z == 0) = true := by simp; omega
        clear hin hi hs hz hzj hi1 hd hfit hl1 h0
        obtain ⟨kb0, kb1, hb0⟩ := lies2 w #[.slice (some ⟨bS, o, none⟩) n a, .slice B m b] #[.slice none 0 0, .slice none 0 0] 24 24
        obtain ⟨V, hV⟩ : ∃ V, (w.alloc (.cells #[.slice (some ⟨bS, o, none⟩) n a, .slice B m b] 24)).alloc (.cells #[.slice none 0 0, .slice none 0 0] 24) = V := ⟨_, rfl⟩
        rw [hV] at hb0 kb0 kb1
        have HV := Lib.hid hV
        have BB := Lib.hid hb0
        have KD := Lib.hid kb0
        have HBD : Hid (w.heap.size ≤ w.heap.size) := Lib.hid (by omega)
        have KR := Lib.hid kb1
        have HBR : Hid (w.heap.size ≤ (w.heap.size + 1)) := Lib.hid (by omega)
        have OD_R : Hid (w.heap.size < (w.heap.size + 1)) := Lib.hid (by omega)
        clear hV hb0 kb0 kb1
        go_enter Try.func12, Try.ntmps12
        go_upto_region 1 with fail
        rw [HV.out]
        clear HV
        obtain ⟨qD_0, qD_1⟩ := KD.out.c2w
        have lD := KD.out.lt
        go_wp2_with fail
        refine (HQ.out _ BB.out).mono ?_
        rw [HD.out]
        try dsimp only
        rintro e U1 ⟨rfl, bU1⟩
        clear qD_0 qD_1 lD
        replace KD := Lib.hid (KD.out.below bU1 KD.out.lt)
        replace KR := Lib.hid (KR.out.below bU1 KR.out.lt)
        replace BB := Lib.hid (below3 BB.out bU1)
        clear bU1
        clear HQ HD
        obtain ⟨qD_0, qD_1⟩ := KD.out.c2w
        have lD := KD.out.lt
        have c1 := (BB.out.cell (p := ⟨bS, o + j, none⟩) hb).trans c0
        have lb := Nat.lt_of_lt_of_le hb BB.out.size
        go_upto_region 5 with fail
        clear qD_0 qD_1 lD c1 lb
        obtain ⟨qD_0, qD_1⟩ := KD.out.c2w
        have lD := KD.out.lt
        go_wp2_with fail
        refine (HW0.out _ BB.out).mono ?_
        rw [HI1.out]
        try dsimp only
        rintro e U2 ⟨Ac, ac, Bc, bc, he, ow, bU2⟩
        try dsimp only at he ow
        subst he
        clear qD_0 qD_1 lD
        have LD_c : Hid (w.heap.size < U1.heap.size) := Lib.hid KD.out.lt
        have LR_c : Hid ((w.heap.size + 1) < U1.heap.size) := Lib.hid KR.out.lt
        have HBBc : Hid (w.heap.size ≤ U1.heap.size) := Lib.hid BB.out.size
        have HSZc : Hid (U1.heap.size ≤ U2.heap.size) := Lib.hid bU2.size
        have Rc := Lib.hid ow
        clear ow
        replace KD := Lib.hid (KD.out.below bU2 KD.out.lt)
        replace KR := Lib.hid (KR.out.below bU2 KR.out.lt)
        replace BB := Lib.hid (below3 BB.out bU2)
        clear bU2
        have kt := Bk.new U2 24 #[.slice Ac i1.length ac, .slice Bc st.length bc]
        have ba := (Below.refl U2.heap.size U2).alloc (Nat.le_refl _) (.cells #[.slice Ac i1.length ac, .slice Bc st.length bc] 24)
        have oD := KD.out.lt
        have oR := KR.out.lt
        have hgb := BB.out.size
        replace KD := Lib.hid (KD.out.below ba KD.out.lt)
        replace KR := Lib.hid (KR.out.below ba KR.out.lt)
        replace Rc := Lib.hid (Rc.out.below ba)
        replace BB := Lib.hid (below3 BB.out ba)
        clear ba
        obtain ⟨W3, hW⟩ : ∃ W, U2.alloc (.cells #[.slice Ac i1.length ac, .slice Bc st.length bc] 24) = W := ⟨_, rfl⟩
        obtain ⟨gN, hg⟩ : ∃ g, U2.heap.size = g := ⟨_, rfl⟩
        rw [hW] at kt BB KD KR Rc
        rw [hg] at kt hgb oD oR HSZc
        have HW := Lib.hid hW
        have HG := Lib.hid hg
        have KN := Lib.hid kt
        have HBN := Lib.hid hgb
        have OD_N := Lib.hid oD
        have OR_N := Lib.hid oR
        clear hW hg kt hgb oD oR
        go_upto_region 6 with fail
        rw [HW.out]
        try rw [HG.out]
        clear HW HG
        obtain ⟨qN_0, qN_1⟩ := KN.out.c2w
        have lN := KN.out.lt
        go_wp2_with fail
        refine (HF.out _ _ _ Rc.out.i.ints).mono ?_
        rintro e U4 ⟨rfl, hw⟩
        have hw2 := hw.symm
        subst hw2
        clear hw
        clear HF
        clear qN_0 qN_1 lN
        obtain ⟨qD_0, qD_1⟩ := KD.out.c2w
        have lD := KD.out.lt
        go_wp2_with fail
        refine (HCP.out _ BB.out).mono ?_
        try dsimp only
        rintro e U5 ⟨Ad, ad, Bd, bd, he, ow, bU5⟩
        try dsimp only at he ow
        subst he
        clear qD_0 qD_1 lD
        have LD_d : Hid (w.heap.size < W3.heap.size) := Lib.hid KD.out.lt
        have LR_d : Hid ((w.heap.size + 1) < W3.heap.size) := Lib.hid KR.out.lt
        have LN_d : Hid (gN < W3.heap.size) := Lib.hid KN.out.lt
        have HBBd : Hid (w.heap.size ≤ W3.heap.size) := Lib.hid BB.out.size
        have HSZd : Hid (W3.heap.size ≤ U5.heap.size) := Lib.hid bU5.size
        have Rd := Lib.hid ow
        clear ow
        replace KD := Lib.hid (KD.out.below bU5 KD.out.lt)
        replace KR := Lib.hid (KR.out.below bU5 KR.out.lt)
        replace KN := Lib.hid (KN.out.below bU5 KN.out.lt)
        replace Rc := Lib.hid (Rc.out.below bU5)
        replace BB := Lib.hid (below3 BB.out bU5)
        clear bU5
        obtain ⟨qR_0, qR_1⟩ := KR.out.c2w
        have lR := KR.out.lt
        obtain ⟨fR_0, fR_1⟩ := KR.out.f2w
        have B_R := Lib.hid (below_set2w (g := (w.heap.size + 1)) BB.out HBR.out (.slice Ad is.length ad) (.slice Bd st.length bd))
        have S_R := Lib.hid (bk_set2w KR.out (.slice Ad is.length ad) (.slice Bd st.length bd))
        have T_R := Lib.hid (ownW_set2 (g := (w.heap.size + 1)) Rd.out LR_d.out (.slice Ad is.length ad) (.slice Bd st.length bd))
        have HBF := Lib.hid (B_R.out)
        have RR := Lib.hid (T_R.out)
        unfold set2w at HBF RR
        go_wp2
        obtain ⟨rR_0, rR_1⟩ := (S_R.out).c2w
        unfold set2w at rR_0 rR_1
        exact bodyPost_ret (v := .tuple #[.bool false, .agg #[.slice Ad is.length ad, .slice Bd st.length bd], .int .i64 0]) (by simp [results, Try.results12, go_sem, rR_0, rR_1]) rfl (⟨Ad, ad, Bd, bd, by simp, RR.out.base_ HBBd.out, HBF.out⟩)
    · rw [show spinWo is st (j : Int) = (false, [], [], 9) from by unfold spinWo; rw [if_pos hin, if_neg (fun q => h0 (hzj.symm.trans q))]]
      have t0 : (z == 0) = false := by simp; omega
      clear h0
      clear hin hi hs hz hzj
      obtain ⟨kb0, kb1, hb0⟩ := lies2 w #[.slice (some ⟨bS, o, none⟩) n a, .slice B m b] #[.slice none 0 0, .slice none 0 0] 24 24
      obtain ⟨V, hV⟩ : ∃ V, (w.alloc (.cells #[.slice (some ⟨bS, o, none⟩) n a, .slice B m b] 24)).alloc (.cells #[.slice none 0 0, .slice none 0 0] 24) = V := ⟨_, rfl⟩
      rw [hV] at hb0 kb0 kb1
      have HV := Lib.hid hV
      have BB := Lib.hid hb0
      have KD := Lib.hid kb0
      have HBD : Hid (w.heap.size ≤ w.heap.size) := Lib.hid (by omega)
      have KR := Lib.hid kb1
      have HBR : Hid (w.heap.size ≤ (w.heap.size + 1)) := Lib.hid (by omega)
      have OD_R : Hid (w.heap.size < (w.heap.size + 1)) := Lib.hid (by omega)
      clear hV hb0 kb0 kb1
      go_enter Try.func12, Try.ntmps12
      go_upto_region 1 with fail
      rw [HV.out]
      clear HV
      obtain ⟨qD_0, qD_1⟩ := KD.out.c2w
      have lD := KD.out.lt
      go_wp2_with fail
      refine (HQ.out _ BB.out).mono ?_
      rw [HD.out]
      try dsimp only
      rintro e U1 ⟨rfl, bU1⟩
      clear qD_0 qD_1 lD
      replace KD := Lib.hid (KD.out.below bU1 KD.out.lt)
      replace KR := Lib.hid (KR.out.below bU1 KR.out.lt)
      replace BB := Lib.hid (below3 BB.out bU1)
      clear bU1
      clear HQ HD
      obtain ⟨qD_0, qD_1⟩ := KD.out.c2w
      have lD := KD.out.lt
      have c1 := (BB.out.cell (p := ⟨bS, o + j, none⟩) hb).trans c0
      have lb := Nat.lt_of_lt_of_le hb BB.out.size
      obtain ⟨qR_0, qR_1⟩ := KR.out.c2w
      have lR := KR.out.lt
      obtain ⟨fR_0, fR_1⟩ := KR.out.f2w
      have B_R := Lib.hid (below_set2w (g := (w.heap.size + 1)) BB.out HBR.out (.slice none 0 0) (.slice none 0 0))
      have S_R := Lib.hid (bk_set2w KR.out (.slice none 0 0) (.slice none 0 0))
      have HBF := Lib.hid (B_R.out)
      unfold set2w at HBF
      go_wp2
      obtain ⟨rR_0, rR_1⟩ := (S_R.out).c2w
      unfold set2w at rR_0 rR_1
      exact bodyPost_ret (v := .tuple #[.bool false, .agg #[.slice none 0 0, .slice none 0 0], .int .i64 9]) (by simp [results, Try.results12, go_sem, rR_0, rR_1]) rfl (yesW_none HBF.out)
  · rw [show spinWo is st i = (false, [], [], 1) from if_neg hin]
    have HQ := Lib.hid fun U hU => in_wo A B n a m b is st i U (hi.below hU) (hs.below hU)
    have HD := Lib.hid (decide_eq_false hin)
    clear hin hi hs
    obtain ⟨kb0, kb1, hb0⟩ := lies2 w #[.slice A n a, .slice B m b] #[.slice none 0 0, .slice none 0 0] 24 24
    obtain ⟨V, hV⟩ : ∃ V, (w.alloc (.cells #[.slice A n a, .slice B m b] 24)).alloc (.cells #[.slice none 0 0, .slice none 0 0] 24) = V := ⟨_, rfl⟩
    rw [hV] at hb0 kb0 kb1
    have HV := Lib.hid hV
    have BB := Lib.hid hb0
    have KD := Lib.hid kb0
    have HBD : Hid (w.heap.size ≤ w.heap.size) := Lib.hid (by omega)
    have KR := Lib.hid kb1
    have HBR : Hid (w.heap.size ≤ (w.heap.size + 1)) := Lib.hid (by omega)
    have OD_R : Hid (w.heap.size < (w.heap.size + 1)) := Lib.hid (by omega)
    clear hV hb0 kb0 kb1
    go_enter Try.func12, Try.ntmps12
    go_upto_region 1 with fail
    rw [HV.out]
    clear HV
    obtain ⟨qD_0, qD_1⟩ := KD.out.c2w
    have lD := KD.out.lt
    go_wp2_with fail
    refine (HQ.out _ BB.out).mono ?_
    rw [HD.out]
    try dsimp only
    rintro e U1 ⟨rfl, bU1⟩
    clear qD_0 qD_1 lD
    replace KD := Lib.hid (KD.out.below bU1 KD.out.lt)
    replace KR := Lib.hid (KR.out.below bU1 KR.out.lt)
    replace BB := Lib.hid (below3 BB.out bU1)
    clear bU1
    clear HQ HD
    obtain ⟨qR_0, qR_1⟩ := KR.out.c2w
    have lR := KR.out.lt
    obtain ⟨fR_0, fR_1⟩ := KR.out.f2w
    have B_R := Lib.hid (below_set2w (g := (w.heap.size + 1)) BB.out HBR.out (.slice none 0 0) (.slice none 0 0))
    have S_R := Lib.hid (bk_set2w KR.out (.slice none 0 0) (.slice none 0 0))
    have HBF := Lib.hid (B_R.out)
    unfold set2w at HBF
    go_wp2
    obtain ⟨rR_0, rR_1⟩ := (S_R.out).c2w
    unfold set2w at rR_0 rR_1
    exact bodyPost_ret (v := .tuple #[.bool false, .agg #[.slice none 0 0, .slice none 0 0], .int .i64 1]) (by simp [results, Try.results12, go_sem, rR_0, rR_1]) rfl (yesW_none HBF.out)

set_option maxHeartbeats 4000000 in
theorem rfound_wo (A B : Option Addr) (n a m b : Nat) (is st : List Int) (i : Int) (w : World) (hi : Ints w A n is) (hs : Ints w B m st) :
    Calls Try.prog 14 #[.agg #[.slice A n a, .slice B m b], .int .i64 i] w (ErrW (foundWo is st i) w) := by
  by_cases hin : inWo is st i
  · obtain ⟨j, rfl⟩ := Int.eq_ofNat_of_zero_le hin.2.1
    have hjl : j < is.length := by have := hin.2.2; omega
    have hjn : j < n := by have := hi.1; omega
    have h03 := fours_at hin.1.2.1 hjl
    have hn64 : is.length ≤ 64 := hin.1.1.2
    obtain ⟨z, hz⟩ : ∃ z, nth is j = z := ⟨_, rfl⟩
    have hzj : nth is ((j : Nat) : Int).toNat = z := by rw [Int.toNat_natCast]; exact hz
    obtain ⟨bS, o, rfl, hb, c0⟩ := hi.at_bt hjn
    rw [hz] at c0
    have HQ := Lib.hid fun U hU => in_wo (some ⟨bS, o, none⟩) B n a m b is st (j : Int) U (hi.below hU) (hs.below hU)
    have HD := Lib.hid (decide_eq_true hin)
    by_cases h0 : z = 3
    · rw [show foundWo is st (j : Int) = ([], [], 9) from by unfold foundWo; rw [if_pos hin, if_pos (hzj.trans h0)]]
      have t0 : (z == 3) = true := by simp; omega
      clear h0
      clear hin hi hs hz hzj
      obtain ⟨kb0, kb1, hb0⟩ := lies2 w #[.slice (some ⟨bS, o, none⟩) n a, .slice B m b] #[.slice none 0 0, .slice none 0 0] 24 24
      obtain ⟨V, hV⟩ : ∃ V, (w.alloc (.cells #[.slice (some ⟨bS, o, none⟩) n a, .slice B m b] 24)).alloc (.cells #[.slice none 0 0, .slice none 0 0] 24) = V := ⟨_, rfl⟩
      rw [hV] at hb0 kb0 kb1
      have HV := Lib.hid hV
      have BB := Lib.hid hb0
      have KD := Lib.hid kb0
      have HBD : Hid (w.heap.size ≤ w.heap.size) := Lib.hid (by omega)
      have KR := Lib.hid kb1
      have HBR : Hid (w.heap.size ≤ (w.heap.size + 1)) := Lib.hid (by omega)
      have OD_R : Hid (w.heap.size < (w.heap.size + 1)) := Lib.hid (by omega)
      clear hV hb0 kb0 kb1
      go_enter Try.func14, Try.ntmps14
      go_upto_region 1 with fail
      rw [HV.out]
      clear HV
      obtain ⟨qD_0, qD_1⟩ := KD.out.c2w
      have lD := KD.out.lt
      go_wp2_with fail
      refine (HQ.out _ BB.out).mono ?_
      rw [HD.out]
      try dsimp only
      rintro e U1 ⟨rfl, bU1⟩
      clear qD_0 qD_1 lD
      replace KD := Lib.hid (KD.out.below bU1 KD.out.lt)
      replace KR := Lib.hid (KR.out.below bU1 KR.out.lt)
      replace BB := Lib.hid (below3 BB.out bU1)
      clear bU1
      clear HQ HD
      obtain ⟨qD_0, qD_1⟩ := KD.out.c2w
      have lD := KD.out.lt
      have c1 := (BB.out.cell (p := ⟨bS, o + j, none⟩) hb).trans c0
      have lb := Nat.lt_of_lt_of_le hb BB.out.size
      obtain ⟨qR_0, qR_1⟩ := KR.out.c2w
      have lR := KR.out.lt
      obtain ⟨fR_0, fR_1⟩ := KR.out.f2w
      have B_R := Lib.hid (below_set2w (g := (w.heap.size + 1)) BB.out HBR.out (.slice none 0 0) (.slice none 0 0))
      have S_R := Lib.hid (bk_set2w KR.out (.slice none 0 0) (.slice none 0 0))
      have HBF := Lib.hid (B_R.out)
      unfold set2w at HBF
      go_wp2
      obtain ⟨rR_0, rR_1⟩ := (S_R.out).c2w
      unfold set2w at rR_0 rR_1
      exact bodyPost_ret (v := .tuple #[.agg #[.slice none 0 0, .slice none 0 0], .int .i64 9]) (by simp [results, Try.results14, go_sem, rR_0, rR_1]) rfl (errW_none HBF.out)
    · obtain ⟨i1, hi1⟩ : ∃ l, is.set j 0 = l := ⟨_, rfl⟩
      have HI1 := Lib.hid hi1
      have hl1 : i1.length = is.length := by rw [← hi1, List.length_set]
      have HW0 := Lib.hid fun U hU => with_wo (some ⟨bS, o, none⟩) B n a m b is st j 0 U (by have := hi.1; omega) (by unfold Fit; omega) (hi.below hU) (hs.below hU)
      obtain ⟨s1, hs1⟩ : ∃ l, butBt st (j : Int) = l := ⟨_, rfl⟩
      have HS1 := Lib.hid hs1
      have HWO := Lib.hid fun (A0 : Option Addr) (c0 : Nat) U hx => without_wo A0 st.length c0 st (j : Int) U hx
      rw [show foundWo is st (j : Int) = (i1, s1, 0) from by unfold foundWo; rw [if_pos hin, if_neg (fun q => h0 (hzj.symm.trans q)), Int.toNat_natCast, hi1, hs1]]
      have t0 : (z == 3) = false := by simp; omega
      clear hin hi hs hz hzj hi1 hs1 hl1 h0
      obtain ⟨kb0, kb1, hb0⟩ := lies2 w #[.slice (some ⟨bS, o, none⟩) n a, .slice B m b] #[.slice none 0 0, .slice none 0 0] 24 24
      obtain ⟨V, hV⟩ : ∃ V, (w.alloc (.cells #[.slice (some ⟨bS, o, none⟩) n a, .slice B m b] 24)).alloc (.cells #[.slice none 0 0, .slice none 0 0] 24) = V := ⟨_, rfl⟩
      rw [hV] at hb0 kb0 kb1
      have HV := Lib.hid hV
      have BB := Lib.hid hb0
      have KD := Lib.hid kb0
      have HBD : Hid (w.heap.size ≤ w.heap.size) := Lib.hid (by omega)
      have KR := Lib.hid kb1
      have HBR : Hid (w.heap.size ≤ (w.heap.size + 1)) := Lib.hid (by omega)
      have OD_R : Hid (w.heap.size < (w.heap.size + 1)) := Lib.hid (by omega)
      clear hV hb0 kb0 kb1
      go_enter Try.func14, Try.ntmps14
      go_upto_region 1 with fail
      rw [HV.out]
      clear HV
      obtain ⟨qD_0, qD_1⟩ := KD.out.c2w
      have lD := KD.out.lt
      go_wp2_with fail
      refine (HQ.out _ BB.out).mono ?_
      rw [HD.out]
      try dsimp only
      rintro e U1 ⟨rfl, bU1⟩
      clear qD_0 qD_1 lD
      replace KD := Lib.hid (KD.out.below bU1 KD.out.lt)
      replace KR := Lib.hid (KR.out.below bU1 KR.out.lt)
      replace BB := Lib.hid (below3 BB.out bU1)
      clear bU1
      clear HQ HD
      obtain ⟨qD_0, qD_1⟩ := KD.out.c2w
      have lD := KD.out.lt
      have c1 := (BB.out.cell (p := ⟨bS, o + j, none⟩) hb).trans c0
      have lb := Nat.lt_of_lt_of_le hb BB.out.size
      go_upto_region 5 with fail
      clear qD_0 qD_1 lD c1 lb
      obtain ⟨qD_0, qD_1⟩ := KD.out.c2w
      have lD := KD.out.lt
      go_wp2_with fail
      refine (HW0.out _ BB.out).mono ?_
      rw [HI1.out]
      try dsimp only
      rintro e U2 ⟨Ac, ac, Bc, bc, he, ow, bU2⟩
      try dsimp only at he ow
      subst he
      clear qD_0 qD_1 lD
      have LD_c : Hid (w.heap.size < U1.heap.size) := Lib.hid KD.out.lt
      have LR_c : Hid ((w.heap.size + 1) < U1.heap.size) := Lib.hid KR.out.lt
      have HBBc : Hid (w.heap.size ≤ U1.heap.size) := Lib.hid BB.out.size
      have HSZc : Hid (U1.heap.size ≤ U2.heap.size) := Lib.hid bU2.size
      have Rc := Lib.hid ow
      clear ow
      replace KD := Lib.hid (KD.out.below bU2 KD.out.lt)
      replace KR := Lib.hid (KR.out.below bU2 KR.out.lt)
      replace BB := Lib.hid (below3 BB.out bU2)
      clear bU2
      have kt := Bk.new U2 24 #[.slice Ac i1.length ac, .slice Bc st.length bc]
      have ba := (Below.refl U2.heap.size U2).alloc (Nat.le_refl _) (.cells #[.slice Ac i1.length ac, .slice Bc st.length bc] 24)
      have oD := KD.out.lt
      have oR := KR.out.lt
      have hgb := BB.out.size
      replace KD := Lib.hid (KD.out.below ba KD.out.lt)
      replace KR := Lib.hid (KR.out.below ba KR.out.lt)
      replace Rc := Lib.hid (Rc.out.below ba)
      replace BB := Lib.hid (below3 BB.out ba)
      clear ba
      obtain ⟨W3, hW⟩ : ∃ W, U2.alloc (.cells #[.slice Ac i1.length ac, .slice Bc st.length bc] 24) = W := ⟨_, rfl⟩
      obtain ⟨gN, hg⟩ : ∃ g, U2.heap.size = g := ⟨_, rfl⟩
      rw [hW] at kt BB KD KR Rc
      rw [hg] at kt hgb oD oR HSZc
      have HW := Lib.hid hW
      have HG := Lib.hid hg
      have KN := Lib.hid kt
      have HBN := Lib.hid hgb
      have OD_N := Lib.hid oD
      have OR_N := Lib.hid oR
      clear hW hg kt hgb oD oR
      go_upto_region 6 with fail
      rw [HW.out]
      try rw [HG.out]
      clear HW HG
      obtain ⟨qN_0, qN_1⟩ := KN.out.c2w
      have lN := KN.out.lt
      go_wp2_with fail
      refine (HWO.out _ _ _ Rc.out.s.ints).mono ?_
      rw [HS1.out]
      rintro e U4 ⟨B2, b2, rfl, ow, bU4⟩
      clear qN_0 qN_1 lN
      have HML := Lib.hid fun q (e : blkW Ac = some q) => (Rc.out.i.blkW_lt q e).2
      have HBL : Hid (U1.heap.size ≤ W3.heap.size) := Lib.hid (by have := HSZc.out; have := KN.out.lt; omega)
      replace KD := Lib.hid (KD.out.below bU4 KD.out.lt)
      replace KR := Lib.hid (KR.out.below bU4 KR.out.lt)
      replace KN := Lib.hid (KN.out.below bU4 KN.out.lt)
      replace Rc := Lib.hid (Rc.out.below bU4)
      replace BB := Lib.hid (below3 BB.out bU4)
      clear bU4
      have Rc2 := Lib.hid (OwnW.newS Rc.out.i ow HBL.out HML.out)
      clear ow HML HBL
      replace Rc := Rc2
      clear Rc2
      obtain ⟨qN_0, qN_1⟩ := KN.out.c2w
      have lN := KN.out.lt
      obtain ⟨fN_0, fN_1⟩ := KN.out.f2w
      have x0 : Bk _ gN 24 #[.slice Ac i1.length ac, .slice B2 s1.length b2] := KN.out.set_ 1 (.slice B2 s1.length b2)
      have xb := BB.out.setCell (p := ⟨gN, 1, none⟩) HBN.out (.slice B2 s1.length b2)
      have xD := KD.out.far (p := ⟨gN, 1, none⟩) (Nat.ne_of_lt OD_N.out) (.slice B2 s1.length b2)
      have xR := KR.out.far (p := ⟨gN, 1, none⟩) (Nat.ne_of_lt OR_N.out) (.slice B2 s1.length b2)
      have yc := Rc.out.apart (j := 1) KN.out (by decide) (.slice B2 s1.length b2)
      obtain ⟨X4, hX⟩ : ∃ X, World.setCell U4 ⟨gN, 1, none⟩ (.slice B2 s1.length b2) = X := ⟨_, rfl⟩
      rw [hX] at x0 xb xD xR yc
      have HX := Lib.hid hX
      replace KN := Lib.hid x0
      replace BB := Lib.hid xb
      replace KD := Lib.hid xD
      replace KR := Lib.hid xR
      replace Rc := Lib.hid yc
      clear hX x0 xb xD xR yc
      go_upto_region 7 with fail
      rw [HX.out]
      clear HX
      clear qN_0 qN_1 lN fN_0 fN_1
      obtain ⟨qN_0, qN_1⟩ := KN.out.c2w
      have lN := KN.out.lt
      obtain ⟨qR_0, qR_1⟩ := KR.out.c2w
      have lR := KR.out.lt
      obtain ⟨fR_0, fR_1⟩ := KR.out.f2w
      have B_R := Lib.hid (below_set2w (g := (w.heap.size + 1)) BB.out HBR.out (.slice Ac i1.length ac) (.slice B2 s1.length b2))
      have S_R := Lib.hid (bk_set2w KR.out (.slice Ac i1.length ac) (.slice B2 s1.length b2))
      have T_R := Lib.hid (ownW_set2 (g := (w.heap.size + 1)) Rc.out LR_c.out (.slice Ac i1.length ac) (.slice B2 s1.length b2))
      have HBF := Lib.hid (B_R.out)
      have RR := Lib.hid (T_R.out)
      unfold set2w at HBF RR
      go_wp2
      obtain ⟨rR_0, rR_1⟩ := (S_R.out).c2w
      unfold set2w at rR_0 rR_1
      exact bodyPost_ret (v := .tuple #[.agg #[.slice Ac i1.length ac, .slice B2 s1.length b2], .int .i64 0]) (by simp [results, Try.results14, go_sem, rR_0, rR_1]) rfl (⟨Ac, ac, B2, b2, by simp, RR.out.base_ HBBc.out, HBF.out⟩)
  · rw [show foundWo is st i = ([], [], 1) from if_neg hin]
    have HQ := Lib.hid fun U hU => in_wo A B n a m b is st i U (hi.below hU) (hs.below hU)
    have HD := Lib.hid (decide_eq_false hin)
    clear hin hi hs
    obtain ⟨kb0, kb1, hb0⟩ := lies2 w #[.slice A n a, .slice B m b] #[.slice none 0 0, .slice none 0 0] 24 24
    obtain ⟨V, hV⟩ : ∃ V, (w.alloc (.cells #[.slice A n a, .slice B m b] 24)).alloc (.cells #[.slice none 0 0, .slice none 0 0] 24) = V := ⟨_, rfl⟩
    rw [hV] at hb0 kb0 kb1
    have HV := Lib.hid hV
    have BB := Lib.hid hb0
    have KD := Lib.hid kb0
    have HBD : Hid (w.heap.size ≤ w.heap.size) := Lib.hid (by omega)
    have KR := Lib.hid kb1
    have HBR : Hid (w.heap.size ≤ (w.heap.size + 1)) := Lib.hid (by omega)
    have OD_R : Hid (w.heap.size < (w.heap.size + 1)) := Lib.hid (by omega)
    clear hV hb0 kb0 kb1
    go_enter Try.func14, Try.ntmps14
    go_upto_region 1 with fail
    rw [HV.out]
    clear HV
    obtain ⟨qD_0, qD_1⟩ := KD.out.c2w
    have lD := KD.out.lt
    go_wp2_with fail
    refine (HQ.out _ BB.out).mono ?_
    rw [HD.out]
    try dsimp only
    rintro e U1 ⟨rfl, bU1⟩
    clear qD_0 qD_1 lD
    replace KD := Lib.hid (KD.out.below bU1 KD.out.lt)
    replace KR := Lib.hid (KR.out.below bU1 KR.out.lt)
    replace BB := Lib.hid (below3 BB.out bU1)
    clear bU1
    clear HQ HD
    obtain ⟨qR_0, qR_1⟩ := KR.out.c2w
    have lR := KR.out.lt
    obtain ⟨fR_0, fR_1⟩ := KR.out.f2w
    have B_R := Lib.hid (below_set2w (g := (w.heap.size + 1)) BB.out HBR.out (.slice none 0 0) (.slice none 0 0))
    have S_R := Lib.hid (bk_set2w KR.out (.slice none 0 0) (.slice none 0 0))
    have HBF := Lib.hid (B_R.out)
    unfold set2w at HBF
    go_wp2
    obtain ⟨rR_0, rR_1⟩ := (S_R.out).c2w
    unfold set2w at rR_0 rR_1
    exact bodyPost_ret (v := .tuple #[.agg #[.slice none 0 0, .slice none 0 0], .int .i64 1]) (by simp [results, Try.results14, go_sem, rR_0, rR_1]) rfl (errW_none HBF.out)

set_option maxHeartbeats 4000000 in
theorem rann_wo (A B : Option Addr) (n a m b : Nat) (is st : List Int) (i : Int) (w : World) (hi : Ints w A n is) (hs : Ints w B m st) :
    Calls Try.prog 16 #[.agg #[.slice A n a, .slice B m b], .int .i64 i] w (ErrW (annWo is st i) w) := by
  by_cases hin : inWo is st i
  · obtain ⟨j, rfl⟩ := Int.eq_ofNat_of_zero_le hin.2.1
    have hjl : j < is.length := by have := hin.2.2; omega
    have hjn : j < n := by have := hi.1; omega
    have h03 := fours_at hin.1.2.1 hjl
    have hn64 : is.length ≤ 64 := hin.1.1.2
    obtain ⟨z, hz⟩ : ∃ z, nth is j = z := ⟨_, rfl⟩
    have hzj : nth is ((j : Nat) : Int).toNat = z := by rw [Int.toNat_natCast]; exact hz
    obtain ⟨bS, o, rfl, hb, c0⟩ := hi.at_bt hjn
    rw [hz] at c0
    have HQ := Lib.hid fun U hU => in_wo (some ⟨bS, o, none⟩) B n a m b is st (j : Int) U (hi.below hU) (hs.below hU)
    have HD := Lib.hid (decide_eq_true hin)
    by_cases h0 : z ≤ 1
    · obtain ⟨i1, hi1⟩ : ∃ l, is.set j 2 = l := ⟨_, rfl⟩
      have HI1 := Lib.hid hi1
      have hl1 : i1.length = is.length := by rw [← hi1, List.length_set]
      have HW0 := Lib.hid fun U hU => with_wo (some ⟨bS, o, none⟩) B n a m b is st j 2 U (by have := hi.1; omega) (by unfold Fit; omega) (hi.below hU) (hs.below hU)
      have HSL : Hid (st.length ≤ 64) := Lib.hid (by have := hin.1.2.2.2.1; have := many_all hin.1.2.1; omega)
      have FJ : Hid (Fit (j : Int)) := Lib.hid (by unfold Fit; omega)
      rw [show annWo is st (j : Int) = (i1, st ++ [(j : Int)], 0) from by unfold annWo; rw [if_pos hin, if_pos (by rw [hzj]; exact h0), Int.toNat_natCast, hi1]]
      have hlen1 : 0 < i1.length := by omega
      have t0 : decide (1 < z) = false := decide_eq_false (by omega)
      clear hin hi hs hz hzj hi1 h0 hl1
      obtain ⟨kb0, kb1, hb0⟩ := lies2 w #[.slice (some ⟨bS, o, none⟩) n a, .slice B m b] #[.slice none 0 0, .slice none 0 0] 24 24
      obtain ⟨V, hV⟩ : ∃ V, (w.alloc (.cells #[.slice (some ⟨bS, o, none⟩) n a, .slice B m b] 24)).alloc (.cells #[.slice none 0 0, .slice none 0 0] 24) = V := ⟨_, rfl⟩
      rw [hV] at hb0 kb0 kb1
      have HV := Lib.hid hV
      have BB := Lib.hid hb0
      have KD := Lib.hid kb0
      have HBD : Hid (w.heap.size ≤ w.heap.size) := Lib.hid (by omega)
      have KR := Lib.hid kb1
      have HBR : Hid (w.heap.size ≤ (w.heap.size + 1)) := Lib.hid (by omega)
      have OD_R : Hid (w.heap.size < (w.heap.size + 1)) := Lib.hid (by omega)
      clear hV hb0 kb0 kb1
      go_enter Try.func16, Try.ntmps16
      go_upto_region 1 with fail
      rw [HV.out]
      clear HV
      obtain ⟨qD_0, qD_1⟩ := KD.out.c2w
      have lD := KD.out.lt
      go_wp2_with fail
      refine (HQ.out _ BB.out).mono ?_
      rw [HD.out]
      try dsimp only
      rintro e U1 ⟨rfl, bU1⟩
      clear qD_0 qD_1 lD
      replace KD := Lib.hid (KD.out.below bU1 KD.out.lt)
      replace KR := Lib.hid (KR.out.below bU1 KR.out.lt)
      replace BB := Lib.hid (below3 BB.out bU1)
      clear bU1
      clear HQ HD
      obtain ⟨qD_0, qD_1⟩ := KD.out.c2w
      have lD := KD.out.lt
      have c1 := (BB.out.cell (p := ⟨bS, o + j, none⟩) hb).trans c0
      have lb := Nat.lt_of_lt_of_le hb BB.out.size
      go_upto_region 5 with fail
      clear qD_0 qD_1 lD c1 lb
      obtain ⟨qD_0, qD_1⟩ := KD.out.c2w
      have lD := KD.out.lt
      go_wp2_with fail
      refine (HW0.out _ BB.out).mono ?_
      rw [HI1.out]
      try dsimp only
      rintro e U2 ⟨Ac, ac, Bc, bc, he, ow, bU2⟩
      try dsimp only at he ow
      subst he
      clear qD_0 qD_1 lD
      obtain ⟨gc, rfl, hga, hgl, -, -⟩ := ow.i.form (hlen1)
      have OD_c : Hid (w.heap.size < gc) := Lib.hid (by have := KD.out.lt; omega)
      have OR_c : Hid ((w.heap.size + 1) < gc) := Lib.hid (by have := KR.out.lt; omega)
      have HBc : Hid (w.heap.size ≤ gc) := Lib.hid (by have := BB.out.size; omega)
      clear hga hgl
      have LD_c : Hid (w.heap.size < U1.heap.size) := Lib.hid KD.out.lt
      have LR_c : Hid ((w.heap.size + 1) < U1.heap.size) := Lib.hid KR.out.lt
      have HBBc : Hid (w.heap.size ≤ U1.heap.size) := Lib.hid BB.out.size
      have HSZc : Hid (U1.heap.size ≤ U2.heap.size) := Lib.hid bU2.size
      have Rc := Lib.hid ow
      clear ow
      replace KD := Lib.hid (KD.out.below bU2 KD.out.lt)
      replace KR := Lib.hid (KR.out.below bU2 KR.out.lt)
      replace BB := Lib.hid (below3 BB.out bU2)
      clear bU2
      have kt := Bk.new U2 24 #[.slice (some ⟨gc, 0, none⟩) i1.length ac, .slice Bc st.length bc]
      have ba := (Below.refl U2.heap.size U2).alloc (Nat.le_refl _) (.cells #[.slice (some ⟨gc, 0, none⟩) i1.length ac, .slice Bc st.length bc] 24)
      have oD := KD.out.lt
      have oR := KR.out.lt
      have oc := Rc.out.i.lt
      have hgb := BB.out.size
      replace KD := Lib.hid (KD.out.below ba KD.out.lt)
      replace KR := Lib.hid (KR.out.below ba KR.out.lt)
      replace Rc := Lib.hid (Rc.out.below ba)
      replace BB := Lib.hid (below3 BB.out ba)
      clear ba
      obtain ⟨W3, hW⟩ : ∃ W, U2.alloc (.cells #[.slice (some ⟨gc, 0, none⟩) i1.length ac, .slice Bc st.length bc] 24) = W := ⟨_, rfl⟩
      obtain ⟨gN, hg⟩ : ∃ g, U2.heap.size = g := ⟨_, rfl⟩
      rw [hW] at kt BB KD KR Rc
      rw [hg] at kt hgb oD oR oc HSZc
      have HW := Lib.hid hW
      have HG := Lib.hid hg
      have KN := Lib.hid kt
      have HBN := Lib.hid hgb
      have OD_N := Lib.hid oD
      have OR_N := Lib.hid oR
      have Oc_N := Lib.hid oc
      clear hW hg kt hgb oD oR oc
      go_upto_region 6 with fail
      rw [HW.out]
      try rw [HG.out]
      clear HW HG
      obtain ⟨qN_0, qN_1⟩ := KN.out.c2w
      have lN := KN.out.lt
      obtain ⟨m0, hm0, hm1, hm2, hm3⟩ := Rc.out.room (by have := Rc.out.i.blkW_lt gc rfl; omega)
      have HM := Lib.hid hm2
      have HM0 := Lib.hid hm0
      have HM1 := Lib.hid hm1
      have HM3 := Lib.hid hm3
      clear hm0 hm1 hm2 hm3
      have ba := Lib.hid ((Below.refl W3.heap.size W3).alloc (Nat.le_refl _) (.cells #[.int .i64 (j : Int)] 3))
      go_upto_region 7 with (at_builtin; refine wpList_append_ints _ rfl _ _ 22 rfl 3 Try.underlying22 Try.intInfo17 _ Bc bc st st.length rfl rfl (HM.out.below ba.out) (some ⟨W3.heap.size, 0, none⟩) 1 1 [(j : Int)] rfl (ints1 W3 3 FJ.out) (by have := HSL.out; omega) (Nat.le_trans HM0.out ba.out.size) ?_; intro A1 c1 w1 ho hg; rw [blk_anyW] at hg; have xD := (KD.out.below ba.out KD.out.lt).grown hg (fun q => Rc.out.s.neBk KD.out (by decide) q.symm); have xR := (KR.out.below ba.out KR.out.lt).grown hg (fun q => Rc.out.s.neBk KR.out (by decide) q.symm); have xN := (KN.out.below ba.out KN.out.lt).grown hg (fun q => Rc.out.s.neBk KN.out (by decide) q.symm); have b9 := (BB.out.alloc BB.out.size (.cells #[.int .i64 (j : Int)] 3)).grown hg (by have := BB.out.size; simp; omega) (fun q hq => by have := (Rc.out.s.blkW_lt _ hq).1; have := HBBc.out; omega); have r9 := (Rc.out.below ba.out).appS hg ho HM1.out HM3.out; replace BB := Lib.hid b9; replace Rc := Lib.hid r9; replace KD := Lib.hid xD; replace KR := Lib.hid xR; replace KN := Lib.hid xN; clear qN_0 qN_1 lN; clear r9 b9 ho hg ba HM HM0 HM1 HM3 xD xR xN; obtain ⟨qN_0, qN_1⟩ := KN.out.c2w; have lN := KN.out.lt; obtain ⟨fN_0, fN_1⟩ := KN.out.f2w; have x0 : Bk _ gN 24 #[.slice (some ⟨gc, 0, none⟩) i1.length ac, .slice A1 (st.length + 1) c1] := KN.out.set_ 1 (.slice A1 (st.length + 1) c1); have xb := BB.out.setCell (p := ⟨gN, 1, none⟩) HBN.out (.slice A1 (st.length + 1) c1); have xD := KD.out.far (p := ⟨gN, 1, none⟩) (Nat.ne_of_lt OD_N.out) (.slice A1 (st.length + 1) c1); have xR := KR.out.far (p := ⟨gN, 1, none⟩) (Nat.ne_of_lt OR_N.out) (.slice A1 (st.length + 1) c1); have yc := Rc.out.apart (j := 1) KN.out (by decide) (.slice A1 (st.length + 1) c1); obtain ⟨X33, hX⟩ : ∃ X, World.setCell w1 ⟨gN, 1, none⟩ (.slice A1 (st.length + 1) c1) = X := ⟨_, rfl⟩; rw [hX] at x0 xb xD xR yc; have HX := Lib.hid hX; replace KN := Lib.hid x0; replace BB := Lib.hid xb; replace KD := Lib.hid xD; replace KR := Lib.hid xR; replace Rc := Lib.hid yc; clear hX x0 xb xD xR yc)
      rw [HX.out]
      clear HX
      clear qN_0 qN_1 lN fN_0 fN_1
      obtain ⟨qN_0, qN_1⟩ := KN.out.c2w
      have lN := KN.out.lt
      obtain ⟨qR_0, qR_1⟩ := KR.out.c2w
      have lR := KR.out.lt
      obtain ⟨fR_0, fR_1⟩ := KR.out.f2w
      have B_R := Lib.hid (below_set2w (g := (w.heap.size + 1)) BB.out HBR.out (.slice (some ⟨gc, 0, none⟩) i1.length ac) (.slice A1 (st.length + 1) c1))
      have S_R := Lib.hid (bk_set2w KR.out (.slice (some ⟨gc, 0, none⟩) i1.length ac) (.slice A1 (st.length + 1) c1))
      have T_R := Lib.hid (ownW_set2 (g := (w.heap.size + 1)) Rc.out LR_c.out (.slice (some ⟨gc, 0, none⟩) i1.length ac) (.slice A1 (st.length + 1) c1))
      have HBF := Lib.hid (B_R.out)
      have RR := Lib.hid (T_R.out)
      unfold set2w at HBF RR
      go_wp2
      obtain ⟨rR_0, rR_1⟩ := (S_R.out).c2w
      unfold set2w at rR_0 rR_1
      exact bodyPost_ret (v := .tuple #[.agg #[.slice (some ⟨gc, 0, none⟩) i1.length ac, .slice A1 (st.length + 1) c1], .int .i64 0]) (by simp [results, Try.results16, go_sem, rR_0, rR_1]) rfl (⟨some ⟨gc, 0, none⟩, ac, A1, c1, by simp, RR.out.base_ HBBc.out, HBF.out⟩)
    · rw [show annWo is st (j : Int) = ([], [], 9) from by unfold annWo; rw [if_pos hin, if_neg (by rw [hzj]; exact h0)]]
      have t0 : decide (1 < z) = true := decide_eq_true (by omega)
      clear h0
      clear hin hi hs hz hzj
      obtain ⟨kb0, kb1, hb0⟩ := lies2 w #[.slice (some ⟨bS, o, none⟩) n a, .slice B m b] #[.slice none 0 0, .slice none 0 0] 24 24
      obtain ⟨V, hV⟩ : ∃ V, (w.alloc (.cells #[.slice (some ⟨bS, o, none⟩) n a, .slice B m b] 24)).alloc (.cells #[.slice none 0 0, .slice none 0 0] 24) = V := ⟨_, rfl⟩
      rw [hV] at hb0 kb0 kb1
      have HV := Lib.hid hV
      have BB := Lib.hid hb0
      have KD := Lib.hid kb0
      have HBD : Hid (w.heap.size ≤ w.heap.size) := Lib.hid (by omega)
      have KR := Lib.hid kb1
      have HBR : Hid (w.heap.size ≤ (w.heap.size + 1)) := Lib.hid (by omega)
      have OD_R : Hid (w.heap.size < (w.heap.size + 1)) := Lib.hid (by omega)
      clear hV hb0 kb0 kb1
      go_enter Try.func16, Try.ntmps16
      go_upto_region 1 with fail
      rw [HV.out]
      clear HV
      obtain ⟨qD_0, qD_1⟩ := KD.out.c2w
      have lD := KD.out.lt
      go_wp2_with fail
      refine (HQ.out _ BB.out).mono ?_
      rw [HD.out]
      try dsimp only
      rintro e U1 ⟨rfl, bU1⟩
      clear qD_0 qD_1 lD
      replace KD := Lib.hid (KD.out.below bU1 KD.out.lt)
      replace KR := Lib.hid (KR.out.below bU1 KR.out.lt)
      replace BB := Lib.hid (below3 BB.out bU1)
      clear bU1
      clear HQ HD
      obtain ⟨qD_0, qD_1⟩ := KD.out.c2w
      have lD := KD.out.lt
      have c1 := (BB.out.cell (p := ⟨bS, o + j, none⟩) hb).trans c0
      have lb := Nat.lt_of_lt_of_le hb BB.out.size
      obtain ⟨qR_0, qR_1⟩ := KR.out.c2w
      have lR := KR.out.lt
      obtain ⟨fR_0, fR_1⟩ := KR.out.f2w
      have B_R := Lib.hid (below_set2w (g := (w.heap.size + 1)) BB.out HBR.out (.slice none 0 0) (.slice none 0 0))
      have S_R := Lib.hid (bk_set2w KR.out (.slice none 0 0) (.slice none 0 0))
      have HBF := Lib.hid (B_R.out)
      unfold set2w at HBF
      go_wp2
      obtain ⟨rR_0, rR_1⟩ := (S_R.out).c2w
      unfold set2w at rR_0 rR_1
      exact bodyPost_ret (v := .tuple #[.agg #[.slice none 0 0, .slice none 0 0], .int .i64 9]) (by simp [results, Try.results16, go_sem, rR_0, rR_1]) rfl (errW_none HBF.out)
  · rw [show annWo is st i = ([], [], 1) from if_neg hin]
    have HQ := Lib.hid fun U hU => in_wo A B n a m b is st i U (hi.below hU) (hs.below hU)
    have HD := Lib.hid (decide_eq_false hin)
    clear hin hi hs
    obtain ⟨kb0, kb1, hb0⟩ := lies2 w #[.slice A n a, .slice B m b] #[.slice none 0 0, .slice none 0 0] 24 24
    obtain ⟨V, hV⟩ : ∃ V, (w.alloc (.cells #[.slice A n a, .slice B m b] 24)).alloc (.cells #[.slice none 0 0, .slice none 0 0] 24) = V := ⟨_, rfl⟩
    rw [hV] at hb0 kb0 kb1
    have HV := Lib.hid hV
    have BB := Lib.hid hb0
    have KD := Lib.hid kb0
    have HBD : Hid (w.heap.size ≤ w.heap.size) := Lib.hid (by omega)
    have KR := Lib.hid kb1
    have HBR : Hid (w.heap.size ≤ (w.heap.size + 1)) := Lib.hid (by omega)
    have OD_R : Hid (w.heap.size < (w.heap.size + 1)) := Lib.hid (by omega)
    clear hV hb0 kb0 kb1
    go_enter Try.func16, Try.ntmps16
    go_upto_region 1 with fail
    rw [HV.out]
    clear HV
    obtain ⟨qD_0, qD_1⟩ := KD.out.c2w
    have lD := KD.out.lt
    go_wp2_with fail
    refine (HQ.out _ BB.out).mono ?_
    rw [HD.out]
    try dsimp only
    rintro e U1 ⟨rfl, bU1⟩
    clear qD_0 qD_1 lD
    replace KD := Lib.hid (KD.out.below bU1 KD.out.lt)
    replace KR := Lib.hid (KR.out.below bU1 KR.out.lt)
    replace BB := Lib.hid (below3 BB.out bU1)
    clear bU1
    clear HQ HD
    obtain ⟨qR_0, qR_1⟩ := KR.out.c2w
    have lR := KR.out.lt
    obtain ⟨fR_0, fR_1⟩ := KR.out.f2w
    have B_R := Lib.hid (below_set2w (g := (w.heap.size + 1)) BB.out HBR.out (.slice none 0 0) (.slice none 0 0))
    have S_R := Lib.hid (bk_set2w KR.out (.slice none 0 0) (.slice none 0 0))
    have HBF := Lib.hid (B_R.out)
    unfold set2w at HBF
    go_wp2
    obtain ⟨rR_0, rR_1⟩ := (S_R.out).c2w
    unfold set2w at rR_0 rR_1
    exact bodyPost_ret (v := .tuple #[.agg #[.slice none 0 0, .slice none 0 0], .int .i64 1]) (by simp [results, Try.results16, go_sem, rR_0, rR_1]) rfl (errW_none HBF.out)

set_option maxHeartbeats 4000000 in
theorem rpark_wo (A B : Option Addr) (n a m b : Nat) (is st : List Int) (i : Int) (w : World) (hi : Ints w A n is) (hs : Ints w B m st) :
    Calls Try.prog 18 #[.agg #[.slice A n a, .slice B m b], .int .i64 i] w (ErrW (parkWo is st i) w) := by
  by_cases hin : inWo is st i
  · obtain ⟨j, rfl⟩ := Int.eq_ofNat_of_zero_le hin.2.1
    have hjl : j < is.length := by have := hin.2.2; omega
    have hjn : j < n := by have := hi.1; omega
    have h03 := fours_at hin.1.2.1 hjl
    have hn64 : is.length ≤ 64 := hin.1.1.2
    obtain ⟨z, hz⟩ : ∃ z, nth is j = z := ⟨_, rfl⟩
    have hzj : nth is ((j : Nat) : Int).toNat = z := by rw [Int.toNat_natCast]; exact hz
    obtain ⟨bS, o, rfl, hb, c0⟩ := hi.at_bt hjn
    rw [hz] at c0
    have HQ := Lib.hid fun U hU => in_wo (some ⟨bS, o, none⟩) B n a m b is st (j : Int) U (hi.below hU) (hs.below hU)
    have HD := Lib.hid (decide_eq_true hin)
    by_cases h0 : z = 2
    · by_cases hfit : fitsWo (is.set j 3)
      · obtain ⟨i1, hi1⟩ : ∃ l, is.set j 3 = l := ⟨_, rfl⟩
        have HI1 := Lib.hid hi1
        have hl1 : i1.length = is.length := by rw [← hi1, List.length_set]
        have HW0 := Lib.hid fun U hU => with_wo (some ⟨bS, o, none⟩) B n a m b is st j 3 U (by have := hi.1; omega) (by unfold Fit; omega) (hi.below hU) (hs.below hU)
        have hd : decide (fitsWo i1) = true := decide_eq_true (by rw [← hi1]; exact hfit)
        have HF := Lib.hid fun (A0 : Option Addr) (c0 : Nat) U hx => fits_wo A0 i1.length c0 i1 U (by omega) hx
        rw [hd] at HF
        clear hd
        rw [show parkWo is st (j : Int) = (i1, st, 0) from by unfold parkWo; rw [if_pos hin, if_pos ⟨hzj.trans h0, by rw [Int.toNat_natCast]; exact hfit⟩, Int.toNat_natCast, hi1]]
        have t0 : (z != 2) = false := by simp; omega
        clear hin hi hs hz hzj hi1 hl1 h0 hfit
        obtain ⟨kb0, kb1, hb0⟩ := lies2 w #[.slice (some ⟨bS, o, none⟩) n a, .slice B m b] #[.slice none 0 0, .slice none 0 0] 24 24
        obtain ⟨V, hV⟩ : ∃ V, (w.alloc (.cells #[.slice (some ⟨bS, o, none⟩) n a, .slice B m b] 24)).alloc (.cells #[.slice none 0 0, .slice none 0 0] 24) = V := ⟨_, rfl⟩
        rw [hV] at hb0 kb0 kb1
        have HV := Lib.hid hV
        have BB := Lib.hid hb0
        have KD := Lib.hid kb0
        have HBD : Hid (w.heap.size ≤ w.heap.size) := Lib.hid (by omega)
        have KR := Lib.hid kb1
        have HBR : Hid (w.heap.size ≤ (w.heap.size + 1)) := Lib.hid (by omega)
        have OD_R : Hid (w.heap.size < (w.heap.size + 1)) := Lib.hid (by omega)
        clear hV hb0 kb0 kb1
        go_enter Try.func18, Try.ntmps18
        go_upto_region 1 with fail
        rw [HV.out]
        clear HV
        obtain ⟨qD_0, qD_1⟩ := KD.out.c2w
        have lD := KD.out.lt
        go_wp2_with fail
        refine (HQ.out _ BB.out).mono ?_
        rw [HD.out]
        try dsimp only
        rintro e U1 ⟨rfl, bU1⟩
        clear qD_0 qD_1 lD
        replace KD := Lib.hid (KD.out.below bU1 KD.out.lt)
        replace KR := Lib.hid (KR.out.below bU1 KR.out.lt)
        replace BB := Lib.hid (below3 BB.out bU1)
        clear bU1
        clear HQ HD
        obtain ⟨qD_0, qD_1⟩ := KD.out.c2w
        have lD := KD.out.lt
        go_wp2_with fail
        refine (HW0.out _ BB.out).mono ?_
        rw [HI1.out]
        try dsimp only
        rintro e U2 ⟨Ac, ac, Bc, bc, he, ow, bU2⟩
        try dsimp only at he ow
        subst he
        clear qD_0 qD_1 lD
        have LD_c : Hid (w.heap.size < U1.heap.size) := Lib.hid KD.out.lt
        have LR_c : Hid ((w.heap.size + 1) < U1.heap.size) := Lib.hid KR.out.lt
        have HBBc : Hid (w.heap.size ≤ U1.heap.size) := Lib.hid BB.out.size
        have HSZc : Hid (U1.heap.size ≤ U2.heap.size) := Lib.hid bU2.size
        have Rc := Lib.hid ow
        clear ow
        replace KD := Lib.hid (KD.out.below bU2 KD.out.lt)
        replace KR := Lib.hid (KR.out.below bU2 KR.out.lt)
        replace BB := Lib.hid (below3 BB.out bU2)
        clear bU2
        have kt := Bk.new U2 24 #[.slice Ac i1.length ac, .slice Bc st.length bc]
        have ba := (Below.refl U2.heap.size U2).alloc (Nat.le_refl _) (.cells #[.slice Ac i1.length ac, .slice Bc st.length bc] 24)
        have oD := KD.out.lt
        have oR := KR.out.lt
        have hgb := BB.out.size
        replace KD := Lib.hid (KD.out.below ba KD.out.lt)
        replace KR := Lib.hid (KR.out.below ba KR.out.lt)
        replace Rc := Lib.hid (Rc.out.below ba)
        replace BB := Lib.hid (below3 BB.out ba)
        clear ba
        obtain ⟨W3, hW⟩ : ∃ W, U2.alloc (.cells #[.slice Ac i1.length ac, .slice Bc st.length bc] 24) = W := ⟨_, rfl⟩
        obtain ⟨gN, hg⟩ : ∃ g, U2.heap.size = g := ⟨_, rfl⟩
        rw [hW] at kt BB KD KR Rc
        rw [hg] at kt hgb oD oR HSZc
        have HW := Lib.hid hW
        have HG := Lib.hid hg
        have KN := Lib.hid kt
        have HBN := Lib.hid hgb
        have OD_N := Lib.hid oD
        have OR_N := Lib.hid oR
        clear hW hg kt hgb oD oR
        go_upto_region 4 with fail
        rw [HW.out]
        try rw [HG.out]
        clear HW HG
        obtain ⟨qD_0, qD_1⟩ := KD.out.c2w
        have lD := KD.out.lt
        have c1 := (BB.out.cell (p := ⟨bS, o + j, none⟩) hb).trans c0
        have lb := Nat.lt_of_lt_of_le hb BB.out.size
        obtain ⟨qN_0, qN_1⟩ := KN.out.c2w
        have lN := KN.out.lt
        go_wp2_with fail
        refine (HF.out _ _ _ Rc.out.i.ints).mono ?_
        rintro e U4 ⟨rfl, hw⟩
        have hw2 := hw.symm
        subst hw2
        clear hw
        clear HF
        go_upto_region 6 with fail
        clear qD_0 qD_1 lD c1 lb qN_0 qN_1 lN
        obtain ⟨qN_0, qN_1⟩ := KN.out.c2w
        have lN := KN.out.lt
        obtain ⟨qR_0, qR_1⟩ := KR.out.c2w
        have lR := KR.out.lt
        obtain ⟨fR_0, fR_1⟩ := KR.out.f2w
        have B_R := Lib.hid (below_set2w (g := (w.heap.size + 1)) BB.out HBR.out (.slice Ac i1.length ac) (.slice Bc st.length bc))
        have S_R := Lib.hid (bk_set2w KR.out (.slice Ac i1.length ac) (.slice Bc st.length bc))
        have T_R := Lib.hid (ownW_set2 (g := (w.heap.size + 1)) Rc.out LR_c.out (.slice Ac i1.length ac) (.slice Bc st.length bc))
        have HBF := Lib.hid (B_R.out)
        have RR := Lib.hid (T_R.out)
        unfold set2w at HBF RR
        go_wp2
        obtain ⟨rR_0, rR_1⟩ := (S_R.out).c2w
        unfold set2w at rR_0 rR_1
        exact bodyPost_ret (v := .tuple #[.agg #[.slice Ac i1.length ac, .slice Bc st.length bc], .int .i64 0]) (by simp [results, Try.results18, go_sem, rR_0, rR_1]) rfl (⟨Ac, ac, Bc, bc, by simp, RR.out.base_ HBBc.out, HBF.out⟩)
      · obtain ⟨i1, hi1⟩ : ∃ l, is.set j 3 = l := ⟨_, rfl⟩
        have HI1 := Lib.hid hi1
        have hl1 : i1.length = is.length := by rw [← hi1, List.length_set]
        have HW0 := Lib.hid fun U hU => with_wo (some ⟨bS, o, none⟩) B n a m b is st j 3 U (by have := hi.1; omega) (by unfold Fit; omega) (hi.below hU) (hs.below hU)
        have hd : decide (fitsWo i1) = false := decide_eq_false (by rw [← hi1]; exact hfit)
        have HF := Lib.hid fun (A0 : Option Addr) (c0 : Nat) U hx => fits_wo A0 i1.length c0 i1 U (by omega) hx
        rw [hd] at HF
        clear hd
        rw [show parkWo is st (j : Int) = ([], [], 9) from by unfold parkWo; rw [if_pos hin, if_neg (fun q => hfit (by have := q.2; rwa [Int.toNat_natCast] at this))]]
        have t0 : (z != 2) = false := by simp; omega
        clear hin hi hs hz hzj hi1 hl1 h0 hfit
        obtain ⟨kb0, kb1, hb0⟩ := lies2 w #[.slice (some ⟨bS, o, none⟩) n a, .slice B m b] #[.slice none 0 0, .slice none 0 0] 24 24
        obtain ⟨V, hV⟩ : ∃ V, (w.alloc (.cells #[.slice (some ⟨bS, o, none⟩) n a, .slice B m b] 24)).alloc (.cells #[.slice none 0 0, .slice none 0 0] 24) = V := ⟨_, rfl⟩
        rw [hV] at hb0 kb0 kb1
        have HV := Lib.hid hV
        have BB := Lib.hid hb0
        have KD := Lib.hid kb0
        have HBD : Hid (w.heap.size ≤ w.heap.size) := Lib.hid (by omega)
        have KR := Lib.hid kb1
        have HBR : Hid (w.heap.size ≤ (w.heap.size + 1)) := Lib.hid (by omega)
        have OD_R : Hid (w.heap.size < (w.heap.size + 1)) := Lib.hid (by omega)
        clear hV hb0 kb0 kb1
        go_enter Try.func18, Try.ntmps18
        go_upto_region 1 with fail
        rw [HV.out]
        clear HV
        obtain ⟨qD_0, qD_1⟩ := KD.out.c2w
        have lD := KD.out.lt
        go_wp2_with fail
        refine (HQ.out _ BB.out).mono ?_
        rw [HD.out]
        try dsimp only
        rintro e U1 ⟨rfl, bU1⟩
        clear qD_0 qD_1 lD
        replace KD := Lib.hid (KD.out.below bU1 KD.out.lt)
        replace KR := Lib.hid (KR.out.below bU1 KR.out.lt)
        replace BB := Lib.hid (below3 BB.out bU1)
        clear bU1
        clear HQ HD
        obtain ⟨qD_0, qD_1⟩ := KD.out.c2w
        have lD := KD.out.lt
        go_wp2_with fail
        refine (HW0.out _ BB.out).mono ?_
        rw [HI1.out]
        try dsimp only
        rintro e U2 ⟨Ac, ac, Bc, bc, he, ow, bU2⟩
        try dsimp only at he ow
        subst he
        clear qD_0 qD_1 lD
        have LD_c : Hid (w.heap.size < U1.heap.size) := Lib.hid KD.out.lt
        have LR_c : Hid ((w.heap.size + 1) < U1.heap.size) := Lib.hid KR.out.lt
        have HBBc : Hid (w.heap.size ≤ U1.heap.size) := Lib.hid BB.out.size
        have HSZc : Hid (U1.heap.size ≤ U2.heap.size) := Lib.hid bU2.size
        have Rc := Lib.hid ow
        clear ow
        replace KD := Lib.hid (KD.out.below bU2 KD.out.lt)
        replace KR := Lib.hid (KR.out.below bU2 KR.out.lt)
        replace BB := Lib.hid (below3 BB.out bU2)
        clear bU2
        have kt := Bk.new U2 24 #[.slice Ac i1.length ac, .slice Bc st.length bc]
        have ba := (Below.refl U2.heap.size U2).alloc (Nat.le_refl _) (.cells #[.slice Ac i1.length ac, .slice Bc st.length bc] 24)
        have oD := KD.out.lt
        have oR := KR.out.lt
        have hgb := BB.out.size
        replace KD := Lib.hid (KD.out.below ba KD.out.lt)
        replace KR := Lib.hid (KR.out.below ba KR.out.lt)
        replace Rc := Lib.hid (Rc.out.below ba)
        replace BB := Lib.hid (below3 BB.out ba)
        clear ba
        obtain ⟨W3, hW⟩ : ∃ W, U2.alloc (.cells #[.slice Ac i1.length ac, .slice Bc st.length bc] 24) = W := ⟨_, rfl⟩
        obtain ⟨gN, hg⟩ : ∃ g, U2.heap.size = g := ⟨_, rfl⟩
        rw [hW] at kt BB KD KR Rc
        rw [hg] at kt hgb oD oR HSZc
        have HW := Lib.hid hW
        have HG := Lib.hid hg
        have KN := Lib.hid kt
        have HBN := Lib.hid hgb
        have OD_N := Lib.hid oD
        have OR_N := Lib.hid oR
        clear hW hg kt hgb oD oR
        go_upto_region 4 with fail
        rw [HW.out]
        try rw [HG.out]
        clear HW HG
        obtain ⟨qD_0, qD_1⟩ := KD.out.c2w
        have lD := KD.out.lt
        have c1 := (BB.out.cell (p := ⟨bS, o + j, none⟩) hb).trans c0
        have lb := Nat.lt_of_lt_of_le hb BB.out.size
        obtain ⟨qN_0, qN_1⟩ := KN.out.c2w
        have lN := KN.out.lt
        go_wp2_with fail
        refine (HF.out _ _ _ Rc.out.i.ints).mono ?_
        rintro e U4 ⟨rfl, hw⟩
        have hw2 := hw.symm
        subst hw2
        clear hw
        clear HF
        go_upto_region 5 with fail
        clear qD_0 qD_1 lD c1 lb qN_0 qN_1 lN
        obtain ⟨qR_0, qR_1⟩ := KR.out.c2w
        have lR := KR.out.lt
        obtain ⟨fR_0, fR_1⟩ := KR.out.f2w
        have B_R := Lib.hid (below_set2w (g := (w.heap.size + 1)) BB.out HBR.out (.slice none 0 0) (.slice none 0 0))
        have S_R := Lib.hid (bk_set2w KR.out (.slice none 0 0) (.slice none 0 0))
        have HBF := Lib.hid (B_R.out)
        unfold set2w at HBF
        go_wp2
        obtain ⟨rR_0, rR_1⟩ := (S_R.out).c2w
        unfold set2w at rR_0 rR_1
        exact bodyPost_ret (v := .tuple #[.agg #[.slice none 0 0, .slice none 0 0], .int .i64 9]) (by simp [results, Try.results18, go_sem, rR_0, rR_1]) rfl (errW_none HBF.out)
    · obtain ⟨i1, hi1⟩ : ∃ l, is.set j 3 = l := ⟨_, rfl⟩
      have HI1 := Lib.hid hi1
      have hl1 : i1.length = is.length := by rw [← hi1, List.length_set]
      have HW0 := Lib.hid fun U hU => with_wo (some ⟨bS, o, none⟩) B n a m b is st j 3 U (by have := hi.1; omega) (by unfold Fit; omega) (hi.below hU) (hs.below hU)
      rw [show parkWo is st (j : Int) = ([], [], 9) from by unfold parkWo; rw [if_pos hin, if_neg (fun q => h0 (hzj.symm.trans q.1))]]
      have t0 : (z != 2) = true := by simp; omega
      clear hin hi hs hz hzj hi1 hl1 h0
      obtain ⟨kb0, kb1, hb0⟩ := lies2 w #[.slice (some ⟨bS, o, none⟩) n a, .slice B m b] #[.slice none 0 0, .slice none 0 0] 24 24
      obtain ⟨V, hV⟩ : ∃ V, (w.alloc (.cells #[.slice (some ⟨bS, o, none⟩) n a, .slice B m b] 24)).alloc (.cells #[.slice none 0 0, .slice none 0 0] 24) = V := ⟨_, rfl⟩
      rw [hV] at hb0 kb0 kb1
      have HV := Lib.hid hV
      have BB := Lib.hid hb0
      have KD := Lib.hid kb0
      have HBD : Hid (w.heap.size ≤ w.heap.size) := Lib.hid (by omega)
      have KR := Lib.hid kb1
      have HBR : Hid (w.heap.size ≤ (w.heap.size + 1)) := Lib.hid (by omega)
      have OD_R : Hid (w.heap.size < (w.heap.size + 1)) := Lib.hid (by omega)
      clear hV hb0 kb0 kb1
      go_enter Try.func18, Try.ntmps18
      go_upto_region 1 with fail
      rw [HV.out]
      clear HV
      obtain ⟨qD_0, qD_1⟩ := KD.out.c2w
      have lD := KD.out.lt
      go_wp2_with fail
      refine (HQ.out _ BB.out).mono ?_
      rw [HD.out]
      try dsimp only
      rintro e U1 ⟨rfl, bU1⟩
      clear qD_0 qD_1 lD
      replace KD := Lib.hid (KD.out.below bU1 KD.out.lt)
      replace KR := Lib.hid (KR.out.below bU1 KR.out.lt)
      replace BB := Lib.hid (below3 BB.out bU1)
      clear bU1
      clear HQ HD
      obtain ⟨qD_0, qD_1⟩ := KD.out.c2w
      have lD := KD.out.lt
      go_wp2_with fail
      refine (HW0.out _ BB.out).mono ?_
      rw [HI1.out]
      try dsimp only
      rintro e U2 ⟨Ac, ac, Bc, bc, he, ow, bU2⟩
      try dsimp only at he ow
      subst he
      clear qD_0 qD_1 lD
      have LD_c : Hid (w.heap.size < U1.heap.size) := Lib.hid KD.out.lt
      have LR_c : Hid ((w.heap.size + 1) < U1.heap.size) := Lib.hid KR.out.lt
      have HBBc : Hid (w.heap.size ≤ U1.heap.size) := Lib.hid BB.out.size
      have HSZc : Hid (U1.heap.size ≤ U2.heap.size) := Lib.hid bU2.size
      have Rc := Lib.hid ow
      clear ow
      replace KD := Lib.hid (KD.out.below bU2 KD.out.lt)
      replace KR := Lib.hid (KR.out.below bU2 KR.out.lt)
      replace BB := Lib.hid (below3 BB.out bU2)
      clear bU2
      have kt := Bk.new U2 24 #[.slice Ac i1.length ac, .slice Bc st.length bc]
      have ba := (Below.refl U2.heap.size U2).alloc (Nat.le_refl _) (.cells #[.slice Ac i1.length ac, .slice Bc st.length bc] 24)
      have oD := KD.out.lt
      have oR := KR.out.lt
      have hgb := BB.out.size
      replace KD := Lib.hid (KD.out.below ba KD.out.lt)
      replace KR := Lib.hid (KR.out.below ba KR.out.lt)
      replace Rc := Lib.hid (Rc.out.below ba)
      replace BB := Lib.hid (below3 BB.out ba)
      clear ba
      obtain ⟨W3, hW⟩ : ∃ W, U2.alloc (.cells #[.slice Ac i1.length ac, .slice Bc st.length bc] 24) = W := ⟨_, rfl⟩
      obtain ⟨gN, hg⟩ : ∃ g, U2.heap.size = g := ⟨_, rfl⟩
      rw [hW] at kt BB KD KR Rc
      rw [hg] at kt hgb oD oR HSZc
      have HW := Lib.hid hW
      have HG := Lib.hid hg
      have KN := Lib.hid kt
      have HBN := Lib.hid hgb
      have OD_N := Lib.hid oD
      have OR_N := Lib.hid oR
      clear hW hg kt hgb oD oR
      go_upto_region 4 with fail
      rw [HW.out]
      try rw [HG.out]
      clear HW HG
      obtain ⟨qD_0, qD_1⟩ := KD.out.c2w
      have lD := KD.out.lt
      have c1 := (BB.out.cell (p := ⟨bS, o + j, none⟩) hb).trans c0
      have lb := Nat.lt_of_lt_of_le hb BB.out.size
      go_upto_region 5 with fail
      clear qD_0 qD_1 lD c1 lb
      obtain ⟨qR_0, qR_1⟩ := KR.out.c2w
      have lR := KR.out.lt
      obtain ⟨fR_0, fR_1⟩ := KR.out.f2w
      have B_R := Lib.hid (below_set2w (g := (w.heap.size + 1)) BB.out HBR.out (.slice none 0 0) (.slice none 0 0))
      have S_R := Lib.hid (bk_set2w KR.out (.slice none 0 0) (.slice none 0 0))
      have HBF := Lib.hid (B_R.out)
      unfold set2w at HBF
      go_wp2
      obtain ⟨rR_0, rR_1⟩ := (S_R.out).c2w
      unfold set2w at rR_0 rR_1
      exact bodyPost_ret (v := .tuple #[.agg #[.slice none 0 0, .slice none 0 0], .int .i64 9]) (by simp [results, Try.results18, go_sem, rR_0, rR_1]) rfl (errW_none HBF.out)
  · rw [show parkWo is st i = ([], [], 1) from if_neg hin]
    have HQ := Lib.hid fun U hU => in_wo A B n a m b is st i U (hi.below hU) (hs.below hU)
    have HD := Lib.hid (decide_eq_false hin)
    clear hin hi hs
    obtain ⟨kb0, kb1, hb0⟩ := lies2 w #[.slice A n a, .slice B m b] #[.slice none 0 0, .slice none 0 0] 24 24
    obtain ⟨V, hV⟩ : ∃ V, (w.alloc (.cells #[.slice A n a, .slice B m b] 24)).alloc (.cells #[.slice none 0 0, .slice none 0 0] 24) = V := ⟨_, rfl⟩
    rw [hV] at hb0 kb0 kb1
    have HV := Lib.hid hV
    have BB := Lib.hid hb0
    have KD := Lib.hid kb0
    have HBD : Hid (w.heap.size ≤ w.heap.size) := Lib.hid (by omega)
    have KR := Lib.hid kb1
    have HBR : Hid (w.heap.size ≤ (w.heap.size + 1)) := Lib.hid (by omega)
    have OD_R : Hid (w.heap.size < (w.heap.size + 1)) := Lib.hid (by omega)
    clear hV hb0 kb0 kb1
    go_enter Try.func18, Try.ntmps18
    go_upto_region 1 with fail
    rw [HV.out]
    clear HV
    obtain ⟨qD_0, qD_1⟩ := KD.out.c2w
    have lD := KD.out.lt
    go_wp2_with fail
    refine (HQ.out _ BB.out).mono ?_
    rw [HD.out]
    try dsimp only
    rintro e U1 ⟨rfl, bU1⟩
    clear qD_0 qD_1 lD
    replace KD := Lib.hid (KD.out.below bU1 KD.out.lt)
    replace KR := Lib.hid (KR.out.below bU1 KR.out.lt)
    replace BB := Lib.hid (below3 BB.out bU1)
    clear bU1
    clear HQ HD
    obtain ⟨qR_0, qR_1⟩ := KR.out.c2w
    have lR := KR.out.lt
    obtain ⟨fR_0, fR_1⟩ := KR.out.f2w
    have B_R := Lib.hid (below_set2w (g := (w.heap.size + 1)) BB.out HBR.out (.slice none 0 0) (.slice none 0 0))
    have S_R := Lib.hid (bk_set2w KR.out (.slice none 0 0) (.slice none 0 0))
    have HBF := Lib.hid (B_R.out)
    unfold set2w at HBF
    go_wp2
    obtain ⟨rR_0, rR_1⟩ := (S_R.out).c2w
    unfold set2w at rR_0 rR_1
    exact bodyPost_ret (v := .tuple #[.agg #[.slice none 0 0, .slice none 0 0], .int .i64 1]) (by simp [results, Try.results18, go_sem, rR_0, rR_1]) rfl (errW_none HBF.out)

set_option maxHeartbeats 4000000 in
theorem rwake_wo (A B : Option Addr) (n a m b : Nat) (is st : List Int) (w : World) (hi : Ints w A n is) (hs : Ints w B m st) :
    Calls Try.prog 20 #[.agg #[.slice A n a, .slice B m b]] w (WhoW (wakeWo is st) w) := by
  by_cases hok : okWo is st
  · by_cases h0 : st.length = 0
    · rw [show wakeWo is st = (0, [], [], 5) from by unfold wakeWo; rw [if_pos hok, if_pos h0]]
      have HQ := Lib.hid fun U hU => rcheck_wo A B n a m b is st U (hi.below hU) (hs.below hU)
      have HE : Hid (chkWo is st = 0) := Lib.hid (if_pos hok)
      have t0 : ((m : Int) == 0) = true := by have := hs.1; simp; omega
      clear hok hi hs h0
      obtain ⟨kb0, kb1, hb0⟩ := lies2 w #[.slice A n a, .slice B m b] #[.slice none 0 0, .slice none 0 0] 24 24
      obtain ⟨V, hV⟩ : ∃ V, (w.alloc (.cells #[.slice A n a, .slice B m b] 24)).alloc (.cells #[.slice none 0 0, .slice none 0 0] 24) = V := ⟨_, rfl⟩
      rw [hV] at hb0 kb0 kb1
      have HV := Lib.hid hV
      have BB := Lib.hid hb0
      have KD := Lib.hid kb0
      have HBD : Hid (w.heap.size ≤ w.heap.size) := Lib.hid (by omega)
      have KR := Lib.hid kb1
      have HBR : Hid (w.heap.size ≤ (w.heap.size + 1)) := Lib.hid (by omega)
      have OD_R : Hid (w.heap.size < (w.heap.size + 1)) := Lib.hid (by omega)
      clear hV hb0 kb0 kb1
      go_enter Try.func20, Try.ntmps20
      go_upto_region 1 with fail
      rw [HV.out]
      clear HV
      obtain ⟨qD_0, qD_1⟩ := KD.out.c2w
      have lD := KD.out.lt
      go_wp2_with fail
      refine (HQ.out _ BB.out).mono ?_
      rw [HE.out]
      try dsimp only
      rintro e U1 ⟨rfl, bU1⟩
      clear qD_0 qD_1 lD
      replace KD := Lib.hid (KD.out.below bU1 KD.out.lt)
      replace KR := Lib.hid (KR.out.below bU1 KR.out.lt)
      replace BB := Lib.hid (below3 BB.out bU1)
      clear bU1
      clear HQ HE
      obtain ⟨qD_0, qD_1⟩ := KD.out.c2w
      have lD := KD.out.lt
      obtain ⟨qR_0, qR_1⟩ := KR.out.c2w
      have lR := KR.out.lt
      obtain ⟨fR_0, fR_1⟩ := KR.out.f2w
      have B_R := Lib.hid (below_set2w (g := (w.heap.size + 1)) BB.out HBR.out (.slice none 0 0) (.slice none 0 0))
      have S_R := Lib.hid (bk_set2w KR.out (.slice none 0 0) (.slice none 0 0))
      have HBF := Lib.hid (B_R.out)
      unfold set2w at HBF
      go_wp2
      obtain ⟨rR_0, rR_1⟩ := (S_R.out).c2w
      unfold set2w at rR_0 rR_1
      exact bodyPost_ret (v := .tuple #[.int .i64 0, .agg #[.slice none 0 0, .slice none 0 0], .int .i64 5]) (by simp [results, Try.results20, go_sem, rR_0, rR_1]) rfl (whoW_none HBF.out)
    · have hlast := (last_in hok h0).1
      obtain ⟨bS, o, rfl, hb, c0⟩ := hs.at_bt (k := st.length - 1) (by have := hs.1; omega)
      have hpl : wakeWo is st = (nth st (st.length - 1), is.set (nth st (st.length - 1)).toNat 0, butBt st (nth st (st.length - 1)), 0) := by unfold wakeWo; rw [if_pos hok, if_neg h0]
      rw [hpl]
      obtain ⟨v, hv⟩ : ∃ v, nth st (st.length - 1) = v := ⟨_, rfl⟩
      rw [hv] at hlast c0 ⊢
      obtain ⟨j, rfl⟩ := Int.eq_ofNat_of_zero_le hlast.2.1
      rw [Int.toNat_natCast]
      have hjl : j < is.length := by have := hlast.2.2; omega
      obtain ⟨i1, hi1⟩ : ∃ l, is.set j 0 = l := ⟨_, rfl⟩
      have HI1 := Lib.hid hi1
      have hl1 : i1.length = is.length := by rw [← hi1, List.length_set]
      have HW0 := Lib.hid fun U hU => with_wo A (some ⟨bS, o, none⟩) n a m b is st j 0 U (by have := hi.1; omega) (by unfold Fit; omega) (hi.below hU) (hs.below hU)
      obtain ⟨s1, hs1⟩ : ∃ l, butBt st (j : Int) = l := ⟨_, rfl⟩
      rw [hi1, hs1]
      have HS1 := Lib.hid hs1
      have HWO := Lib.hid fun (A0 : Option Addr) (c0 : Nat) U hx => without_wo A0 st.length c0 st (j : Int) U hx
      have hsl : st.length = m := hs.1
      rw [hsl] at c0
      have hm1 : 1 ≤ m := by omega
      have hmx := hs.2.1
      have e1 : IntKind.i64.wrap ((m : Int) - 1) = ((m - 1 : Nat) : Int) := by rw [IntKind.wrap_i64]; omega
      have t0 : ((m : Int) == 0) = false := by simp; omega
      have e2 : m - 1 < m := by omega
      have HQ := Lib.hid fun U hU => rcheck_wo A (some ⟨bS, o, none⟩) n a m b is st U (hi.below hU) (hs.below hU)
      have HE : Hid (chkWo is st = 0) := Lib.hid (if_pos hok)
      clear hok hi hs h0 hlast hpl hv hi1 hs1 hl1 hsl hjl
      obtain ⟨kb0, kb1, hb0⟩ := lies2 w #[.slice A n a, .slice (some ⟨bS, o, none⟩) m b] #[.slice none 0 0, .slice none 0 0] 24 24
      obtain ⟨V, hV⟩ : ∃ V, (w.alloc (.cells #[.slice A n a, .slice (some ⟨bS, o, none⟩) m b] 24)).alloc (.cells #[.slice none 0 0, .slice none 0 0] 24) = V := ⟨_, rfl⟩
      rw [hV] at hb0 kb0 kb1
      have HV := Lib.hid hV
      have BB := Lib.hid hb0
      have KD := Lib.hid kb0
      have HBD : Hid (w.heap.size ≤ w.heap.size) := Lib.hid (by omega)
      have KR := Lib.hid kb1
      have HBR : Hid (w.heap.size ≤ (w.heap.size + 1)) := Lib.hid (by omega)
      have OD_R : Hid (w.heap.size < (w.heap.size + 1)) := Lib.hid (by omega)
      clear hV hb0 kb0 kb1
      go_enter Try.func20, Try.ntmps20
      go_upto_region 1 with fail
      rw [HV.out]
      clear HV
      obtain ⟨qD_0, qD_1⟩ := KD.out.c2w
      have lD := KD.out.lt
      go_wp2_with fail
      refine (HQ.out _ BB.out).mono ?_
      rw [HE.out]
      try dsimp only
      rintro e U1 ⟨rfl, bU1⟩
      clear qD_0 qD_1 lD
      replace KD := Lib.hid (KD.out.below bU1 KD.out.lt)
      replace KR := Lib.hid (KR.out.below bU1 KR.out.lt)
      replace BB := Lib.hid (below3 BB.out bU1)
      clear bU1
      clear HQ HE
      obtain ⟨qD_0, qD_1⟩ := KD.out.c2w
      have lD := KD.out.lt
      have c1 := (BB.out.cell (p := ⟨bS, o + (m - 1), none⟩) hb).trans c0
      have lb := Nat.lt_of_lt_of_le hb BB.out.size
      go_upto_region 6 with fail
      clear c1 lb c0
      clear qD_0 qD_1 lD
      obtain ⟨qD_0, qD_1⟩ := KD.out.c2w
      have lD := KD.out.lt
      go_wp2_with fail
      refine (HW0.out _ BB.out).mono ?_
      rw [HI1.out]
      try dsimp only
      rintro e U2 ⟨Ac, ac, Bc, bc, he, ow, bU2⟩
      try dsimp only at he ow
      subst he
      clear qD_0 qD_1 lD
      have LD_c : Hid (w.heap.size < U1.heap.size) := Lib.hid KD.out.lt
      have LR_c : Hid ((w.heap.size + 1) < U1.heap.size) := Lib.hid KR.out.lt
      have HBBc : Hid (w.heap.size ≤ U1.heap.size) := Lib.hid BB.out.size
      have HSZc : Hid (U1.heap.size ≤ U2.heap.size) := Lib.hid bU2.size
      have Rc := Lib.hid ow
      clear ow
      replace KD := Lib.hid (KD.out.below bU2 KD.out.lt)
      replace KR := Lib.hid (KR.out.below bU2 KR.out.lt)
      replace BB := Lib.hid (below3 BB.out bU2)
      clear bU2
      have kt := Bk.new U2 24 #[.slice Ac i1.length ac, .slice Bc st.length bc]
      have ba := (Below.refl U2.heap.size U2).alloc (Nat.le_refl _) (.cells #[.slice Ac i1.length ac, .slice Bc st.length bc] 24)
      have oD := KD.out.lt
      have oR := KR.out.lt
      have hgb := BB.out.size
      replace KD := Lib.hid (KD.out.below ba KD.out.lt)
      replace KR := Lib.hid (KR.out.below ba KR.out.lt)
      replace Rc := Lib.hid (Rc.out.below ba)
      replace BB := Lib.hid (below3 BB.out ba)
      clear ba
      obtain ⟨W3, hW⟩ : ∃ W, U2.alloc (.cells #[.slice Ac i1.length ac, .slice Bc st.length bc] 24) = W := ⟨_, rfl⟩
      obtain ⟨gN, hg⟩ : ∃ g, U2.heap.size = g := ⟨_, rfl⟩
      rw [hW] at kt BB KD KR Rc
      rw [hg] at kt hgb oD oR HSZc
      have HW := Lib.hid hW
      have HG := Lib.hid hg
      have KN := Lib.hid kt
      have HBN := Lib.hid hgb
      have OD_N := Lib.hid oD
      have OR_N := Lib.hid oR
      clear hW hg kt hgb oD oR
      go_upto_region 7 with fail
      rw [HW.out]
      try rw [HG.out]
      clear HW HG
      obtain ⟨qN_0, qN_1⟩ := KN.out.c2w
      have lN := KN.out.lt
      go_wp2_with fail
      refine (HWO.out _ _ _ Rc.out.s.ints).mono ?_
      rw [HS1.out]
      rintro e U4 ⟨B2, b2, rfl, ow, bU4⟩
      clear qN_0 qN_1 lN
      have HML := Lib.hid fun q (e : blkW Ac = some q) => (Rc.out.i.blkW_lt q e).2
      have HBL : Hid (U1.heap.size ≤ W3.heap.size) := Lib.hid (by have := HSZc.out; have := KN.out.lt; omega)
      replace KD := Lib.hid (KD.out.below bU4 KD.out.lt)
      replace KR := Lib.hid (KR.out.below bU4 KR.out.lt)
      replace KN := Lib.hid (KN.out.below bU4 KN.out.lt)
      replace Rc := Lib.hid (Rc.out.below bU4)
      replace BB := Lib.hid (below3 BB.out bU4)
      clear bU4
      have Rc2 := Lib.hid (OwnW.newS Rc.out.i ow HBL.out HML.out)
      clear ow HML HBL
      replace Rc := Rc2
      clear Rc2
      obtain ⟨qN_0, qN_1⟩ := KN.out.c2w
      have lN := KN.out.lt
      obtain ⟨fN_0, fN_1⟩ := KN.out.f2w
      have x0 : Bk _ gN 24 #[.slice Ac i1.length ac, .slice B2 s1.length b2] := KN.out.set_ 1 (.slice B2 s1.length b2)
      have xb := BB.out.setCell (p := ⟨gN, 1, none⟩) HBN.out (.slice B2 s1.length b2)
      have xD := KD.out.far (p := ⟨gN, 1, none⟩) (Nat.ne_of_lt OD_N.out) (.slice B2 s1.length b2)
      have xR := KR.out.far (p := ⟨gN, 1, none⟩) (Nat.ne_of_lt OR_N.out) (.slice B2 s1.length b2)
      have yc := Rc.out.apart (j := 1) KN.out (by decide) (.slice B2 s1.length b2)
      obtain ⟨X4, hX⟩ : ∃ X, World.setCell U4 ⟨gN, 1, none⟩ (.slice B2 s1.length b2) = X := ⟨_, rfl⟩
      rw [hX] at x0 xb xD xR yc
      have HX := Lib.hid hX
      replace KN := Lib.hid x0
      replace BB := Lib.hid xb
      replace KD := Lib.hid xD
      replace KR := Lib.hid xR
      replace Rc := Lib.hid yc
      clear hX x0 xb xD xR yc
      go_upto_region 8 with fail
      rw [HX.out]
      clear HX
      clear qN_0 qN_1 lN fN_0 fN_1
      obtain ⟨qN_0, qN_1⟩ := KN.out.c2w
      have lN := KN.out.lt
      obtain ⟨qR_0, qR_1⟩ := KR.out.c2w
      have lR := KR.out.lt
      obtain ⟨fR_0, fR_1⟩ := KR.out.f2w
      have B_R := Lib.hid (below_set2w (g := (w.heap.size + 1)) BB.out HBR.out (.slice Ac i1.length ac) (.slice B2 s1.length b2))
      have S_R := Lib.hid (bk_set2w KR.out (.slice Ac i1.length ac) (.slice B2 s1.length b2))
      have T_R := Lib.hid (ownW_set2 (g := (w.heap.size + 1)) Rc.out LR_c.out (.slice Ac i1.length ac) (.slice B2 s1.length b2))
      have HBF := Lib.hid (B_R.out)
      have RR := Lib.hid (T_R.out)
      unfold set2w at HBF RR
      skip
      go_region
      go_wp2
      obtain ⟨rR_0, rR_1⟩ := (S_R.out.drew).c2w
      unfold set2w at rR_0 rR_1
      exact bodyPost_ret (v := .tuple #[.int .i64 (j : Int), .agg #[.slice Ac i1.length ac, .slice B2 s1.length b2], .int .i64 0]) (by simp [results, Try.results20, go_sem, rR_0, rR_1]) rfl (⟨Ac, ac, B2, b2, by simp, (RR.out.below (Below.refl _ _).drew).base_ HBBc.out, HBF.out.drew⟩)
  · rw [show wakeWo is st = (0, [], [], 1) from if_neg hok]
    have HQ := Lib.hid fun U hU => rcheck_wo A B n a m b is st U (hi.below hU) (hs.below hU)
    have HE : Hid (chkWo is st = 1) := Lib.hid (if_neg hok)
    clear hok hi hs
    obtain ⟨kb0, kb1, hb0⟩ := lies2 w #[.slice A n a, .slice B m b] #[.slice none 0 0, .slice none 0 0] 24 24
    obtain ⟨V, hV⟩ : ∃ V, (w.alloc (.cells #[.slice A n a, .slice B m b] 24)).alloc (.cells #[.slice none 0 0, .slice none 0 0] 24) = V := ⟨_, rfl⟩
    rw [hV] at hb0 kb0 kb1
    have HV := Lib.hid hV
    have BB := Lib.hid hb0
    have KD := Lib.hid kb0
    have HBD : Hid (w.heap.size ≤ w.heap.size) := Lib.hid (by omega)
    have KR := Lib.hid kb1
    have HBR : Hid (w.heap.size ≤ (w.heap.size + 1)) := Lib.hid (by omega)
    have OD_R : Hid (w.heap.size < (w.heap.size + 1)) := Lib.hid (by omega)
    clear hV hb0 kb0 kb1
    go_enter Try.func20, Try.ntmps20
    go_upto_region 1 with fail
    rw [HV.out]
    clear HV
    obtain ⟨qD_0, qD_1⟩ := KD.out.c2w
    have lD := KD.out.lt
    go_wp2_with fail
    refine (HQ.out _ BB.out).mono ?_
    rw [HE.out]
    try dsimp only
    rintro e U1 ⟨rfl, bU1⟩
    clear qD_0 qD_1 lD
    replace KD := Lib.hid (KD.out.below bU1 KD.out.lt)
    replace KR := Lib.hid (KR.out.below bU1 KR.out.lt)
    replace BB := Lib.hid (below3 BB.out bU1)
    clear bU1
    clear HQ HE
    obtain ⟨qR_0, qR_1⟩ := KR.out.c2w
    have lR := KR.out.lt
    obtain ⟨fR_0, fR_1⟩ := KR.out.f2w
    have B_R := Lib.hid (below_set2w (g := (w.heap.size + 1)) BB.out HBR.out (.slice none 0 0) (.slice none 0 0))
    have S_R := Lib.hid (bk_set2w KR.out (.slice none 0 0) (.slice none 0 0))
    have HBF := Lib.hid (B_R.out)
    unfold set2w at HBF
    go_wp2
    obtain ⟨rR_0, rR_1⟩ := (S_R.out).c2w
    unfold set2w at rR_0 rR_1
    exact bodyPost_ret (v := .tuple #[.int .i64 0, .agg #[.slice none 0 0, .slice none 0 0], .int .i64 1]) (by simp [results, Try.results20, go_sem, rR_0, rR_1]) rfl (whoW_none HBF.out)

end Go.Proofs.Ytmndkofdoclihaa

/-
  The law SemaBack: taken and given, taken and dropped: the walk.
-/
import Derived.Test.YtokmogfnliccjaaMs
namespace Go.Proofs.Ytokmogfnliccjaa
open Go.RowKit

set_option maxRecDepth 100000 in
set_option maxHeartbeats 8000000 in
theorem lback_any (z : Int) (A : Option Addr) (n c : Nat) (l : List Int) (id : Int) (w : World) (hnc : n ≤ c ∧ c ≤ 9223372036854775807) (hx : n ≤ 400 → SemW w z A n c l) (fid : Fit id) :
    Calls Try.prog 5 #[.agg #[.int .i64 z, .slice A n c], .int .i64 id] w (TrueAns w) := by
  have := hnc; clear this
  by_cases h3 : 300 < n
  · have ka := Bk.new w 24 #[.int .i64 z, .slice A n c]
    have ba := (Below.refl w.heap.size w).alloc (Nat.le_refl _) (.cells #[.int .i64 z, .slice A n c] 24)
    obtain ⟨g0, hg0⟩ : ∃ g, w.heap.size = g := ⟨_, rfl⟩
    obtain ⟨V, hV⟩ : ∃ V, w.alloc (.cells #[.int .i64 z, .slice A n c] 24) = V := ⟨_, rfl⟩
    rw [hV] at ka ba
    rw [hg0] at ka
    have HV := Lib.hid hV
    have HG0 := Lib.hid hg0
    have S0 := Lib.hid ka
    have BB := Lib.hid ba
    clear ka ba hx hV hg0
    go_enter Try.func5, Try.ntmps5
    go_upto_region 1 with fail
    rw [HV.out]
    try rw [HG0.out]
    clear HV HG0
    go_wp2_with fail
    refine (live_any _).mono ?_
    rintro e w1 ⟨rfl, b⟩
    replace S0 := Lib.hid (S0.out.below b S0.out.lt)
    replace BB := Lib.hid (below3 BB.out b)
    clear b
    have a10 := S0.out.c1
    have lg0 := S0.out.lt
    go_wp2_with fail
    go_ret
    exact ⟨rfl, BB.out⟩
  · have hn3 : n ≤ 300 := by omega
    have LX := Lib.hid (hx (by omega)).x.1
    have FID := Lib.hid fid
    clear fid
    have ka := Bk.new w 24 #[.int .i64 z, .slice A n c]
    have ba := (Below.refl w.heap.size w).alloc (Nat.le_refl _) (.cells #[.int .i64 z, .slice A n c] 24)
    have hx1 := (hx (by omega)).below ba
    obtain ⟨g0, hg0⟩ : ∃ g, w.heap.size = g := ⟨_, rfl⟩
    obtain ⟨V, hV⟩ : ∃ V, w.alloc (.cells #[.int .i64 z, .slice A n c] 24) = V := ⟨_, rfl⟩
    rw [hV] at ka ba hx1
    rw [hg0] at ka
    have HV := Lib.hid hV
    have HG0 := Lib.hid hg0
    have S0 := Lib.hid (SV.mk ka hx1)
    have BB := Lib.hid ba
    clear ka ba hx hx1 hV hg0
    go_enter Try.func5, Try.ntmps5
    go_upto_region 1 with fail
    rw [HV.out]
    try rw [HG0.out]
    clear HV HG0
    go_wp2_with fail
    refine (live_any _).mono ?_
    rintro e w1 ⟨rfl, b⟩
    replace S0 := Lib.hid (S0.out.below b)
    replace BB := Lib.hid (below3 BB.out b)
    clear b
    by_cases hok : semOk z l
    · have HOK := Lib.hid hok
      clear hok h3
      have a00 := S0.out.k.c0
      have a10 := S0.out.k.c1
      have lg0 := S0.out.k.lt
      go_wp2_with fail
      refine (pcheck_any z A n c l _ S0.out.s).mono ?_
      rw [if_pos HOK.out]
      rintro e w2 ⟨rfl, b⟩
      clear a00 a10 lg0
      replace S0 := Lib.hid (S0.out.below b)
      replace BB := Lib.hid (below3 BB.out b)
      clear b
      rcases take_ways HOK.out id with ⟨e1, he, hr, hw, -, -⟩ | ⟨hr, h0, hz, hl⟩ | ⟨hr, h0, hm, hz, hl⟩
      · have HR := Lib.hid hr
        have te : (e1 != 0) = true := by simpa using he
        have HW := Lib.hid hw
        clear hr he hw
        have a00 := S0.out.k.c0
        have a10 := S0.out.k.c1
        have lg0 := S0.out.k.lt
        go_wp2_with fail
        refine (ptakeC_any z A n c l id _ S0.out.s FID.out).mono ?_
        rw [HR.out]
        rintro e w3 ⟨A1, c1, rfl, o, b⟩
        dsimp only at o ⊢
        clear a00 a10 lg0
        replace S0 := Lib.hid (S0.out.below b)
        replace BB := Lib.hid (below3 BB.out b)
        clear b
        have ba := (Below.refl w3.heap.size w3).alloc (Nat.le_refl _) (.cells #[.int .i64 0, .slice A1 0 c1] 24)
        have ka := Bk.new w3 24 #[.int .i64 0, .slice A1 0 c1]
        have sa := SemW.own (z := 0) (o.below ba) fit0 rfl
        have nS0 := S0.out.below ba
        have nbb := below3 BB.out ba
        obtain ⟨g1, hg1⟩ : ∃ g, w3.heap.size = g := ⟨_, rfl⟩
        have hgb := BB.out.size
        obtain ⟨V3, hV3⟩ : ∃ V, w3.alloc (.cells #[.int .i64 0, .slice A1 0 c1] 24) = V := ⟨_, rfl⟩
        rw [hV3] at ka sa nbb nS0
        rw [hg1] at ka hgb
        have HV3 := Lib.hid hV3
        have Hg1 := Lib.hid hg1
        have HBg1 := Lib.hid hgb
        have S1 := Lib.hid (SV.mk ka sa)
        replace S0 := Lib.hid nS0
        replace BB := Lib.hid nbb
        clear ba ka sa nbb hgb hg1 hV3 nS0
        go_upto_region 7 with fail
        rw [HV3.out]
        try rw [Hg1.out]
        clear HV3 Hg1
        clear o
        have a00 := S0.out.k.c0
        have a10 := S0.out.k.c1
        have lg0 := S0.out.k.lt
        by_cases h0 : id < 0
        · have t0 : decide (id < 0) = true := decide_eq_true h0
          clear h0
          go_wp2_with fail
          go_ret
          exact ⟨rfl, BB.out⟩
        · have t0 : decide (id < 0) = false := decide_eq_false h0
          by_cases hm : id ∈ l
          · have HM := Lib.hid (hasB_yes hm)
            clear h0 hm
            go_wp2_with fail
            refine (rhas_any A n c l id _ S0.out.s.x).mono ?_
            rw [HM.out]
            rintro e w4 ⟨rfl, b⟩
            clear a00 a10 lg0
            replace S0 := Lib.hid (S0.out.below b)
            replace BB := Lib.hid (below3 BB.out b)
            clear b
            go_wp2_with fail
            go_ret
            exact ⟨rfl, BB.out⟩
          · have HM := Lib.hid (hasB_no hm)
            have t6 : ((n : Int) == 256) = true := by have := (HW.out.resolve_left h0).resolve_left hm; have := LX.out; simp; omega
            clear h0 hm
            go_wp2_with fail
            refine (rhas_any A n c l id _ S0.out.s.x).mono ?_
            rw [HM.out]
            rintro e w4 ⟨rfl, b⟩
            clear a00 a10 lg0
            replace S0 := Lib.hid (S0.out.below b)
            replace BB := Lib.hid (below3 BB.out b)
            clear b
            have a00 := S0.out.k.c0
            have a10 := S0.out.k.c1
            have lg0 := S0.out.k.lt
            go_wp2_with fail
            go_ret
            exact ⟨rfl, BB.out⟩
      · have HR := Lib.hid hr
        have HGV := Lib.hid (give_more (ok_take hz HOK.out) rfl (show z - 1 ≠ 1000 by have := HOK.out.2.1; omega))
        rw [show z - 1 + 1 = z by omega] at HGV
        have HSM := Lib.hid (show sameSm z z [] l = true by rw [hl]; exact sameSm_refl _ _)
        have FZ1 : Hid (Fit (z - 1)) := Lib.hid (by unfold Fit; have := HOK.out.2.1; omega)
        have FZ := Lib.hid S0.out.s.f
        clear hr h0 hz hl
        have a00 := S0.out.k.c0
        have a10 := S0.out.k.c1
        have lg0 := S0.out.k.lt
        go_wp2_with fail
        refine (ptakeC_any z A n c l id _ S0.out.s FID.out).mono ?_
        rw [HR.out]
        rintro e w3 ⟨A1, c1, rfl, o, b⟩
        dsimp only at o ⊢
        clear a00 a10 lg0
        replace S0 := Lib.hid (S0.out.below b)
        replace BB := Lib.hid (below3 BB.out b)
        clear b
        have ba := (Below.refl w3.heap.size w3).alloc (Nat.le_refl _) (.cells #[.int .i64 (z - 1), .slice A1 0 c1] 24)
        have ka := Bk.new w3 24 #[.int .i64 (z - 1), .slice A1 0 c1]
        have sa := SemW.own (z := (z - 1)) (o.below ba) FZ1.out rfl
        have nS0 := S0.out.below ba
        have nbb := below3 BB.out ba
        obtain ⟨g1, hg1⟩ : ∃ g, w3.heap.size = g := ⟨_, rfl⟩
        have hgb := BB.out.size
        obtain ⟨V3, hV3⟩ : ∃ V, w3.alloc (.cells #[.int .i64 (z - 1), .slice A1 0 c1] 24) = V := ⟨_, rfl⟩
        rw [hV3] at ka sa nbb nS0
        rw [hg1] at ka hgb
        have HV3 := Lib.hid hV3
        have Hg1 := Lib.hid hg1
        have HBg1 := Lib.hid hgb
        have S1 := Lib.hid (SV.mk ka sa)
        replace S0 := Lib.hid nS0
        replace BB := Lib.hid nbb
        clear ba ka sa nbb hgb hg1 hV3 nS0
        go_upto_region 7 with fail
        rw [HV3.out]
        try rw [Hg1.out]
        clear HV3 Hg1
        clear o
        have a01 := S1.out.k.c0
        have a11 := S1.out.k.c1
        have lg1 := S1.out.k.lt
        go_wp2_with fail
        refine (pgiveC_any (z - 1) A1 0 c1 [] _ S1.out.s).mono ?_
        rw [HGV.out]
        rintro e w4 ⟨A4, c4, rfl, o, b⟩
        dsimp only at o ⊢
        clear a01 a11 lg1
        replace S0 := Lib.hid (S0.out.below b)
        replace S1 := Lib.hid (S1.out.below b)
        replace BB := Lib.hid (below3 BB.out b)
        clear b
        have ba := (Below.refl w4.heap.size w4).alloc (Nat.le_refl _) (.cells #[.int .i64 z, .slice A4 0 c4] 24)
        have ka := Bk.new w4 24 #[.int .i64 z, .slice A4 0 c4]
        have sa := SemW.own (z := z) (o.below ba) FZ.out rfl
        have nS0 := S0.out.below ba
        have nS1 := S1.out.below ba
        have nbb := below3 BB.out ba
        obtain ⟨g4, hg4⟩ : ∃ g, w4.heap.size = g := ⟨_, rfl⟩
        have hgb := BB.out.size
        obtain ⟨V4, hV4⟩ : ∃ V, w4.alloc (.cells #[.int .i64 z, .slice A4 0 c4] 24) = V := ⟨_, rfl⟩
        rw [hV4] at ka sa nbb nS0 nS1
        rw [hg4] at ka hgb
        have HV4 := Lib.hid hV4
        have Hg4 := Lib.hid hg4
        have HBg4 := Lib.hid hgb
        have S4 := Lib.hid (SV.mk ka sa)
        replace S0 := Lib.hid nS0
        replace S1 := Lib.hid nS1
        replace BB := Lib.hid nbb
        clear ba ka sa nbb hgb hg4 hV4 nS0 nS1
        go_upto_region 11 with fail
        rw [HV4.out]
        try rw [Hg4.out]
        clear HV4 Hg4
        clear o
        have a0x := S4.out.k.c0
        have a1x := S4.out.k.c1
        have lgx := S4.out.k.lt
        have a00 := S0.out.k.c0
        have a10 := S0.out.k.c1
        have lg0 := S0.out.k.lt
        go_wp2_with fail
        refine (psame_any z z A4 A 0 c4 n c [] l _ S4.out.s S0.out.s).mono ?_
        rw [HSM.out]
        rintro e w9 ⟨rfl, b⟩
        clear a00 a10 lg0
        clear a0x a1x lgx
        replace S0 := Lib.hid (S0.out.below b)
        replace BB := Lib.hid (below3 BB.out b)
        clear b
        go_wp2_with fail
        go_ret
        exact ⟨rfl, BB.out⟩
      · have HR := Lib.hid hr
        subst hz
        have HDR := Lib.hid (drop_in (ok_wait HOK.out h0 hm hl) (List.mem_append_right l (List.mem_singleton.2 rfl)))
        rw [wo_last hm] at HDR
        have HSM := Lib.hid (sameSm_refl 0 l)
        have HL1 := Lib.hid (show (l ++ [id]).length = n + 1 by rw [List.length_append, LX.out]; rfl)
        clear hr h0 hm hl
        have a00 := S0.out.k.c0
        have a10 := S0.out.k.c1
        have lg0 := S0.out.k.lt
        go_wp2_with fail
        refine (ptakeC_any 0 A n c l id _ S0.out.s FID.out).mono ?_
        rw [HR.out]
        rintro e w3 ⟨A1, c1, rfl, o, b⟩
        dsimp only at o ⊢
        rw [HL1.out]
        clear a00 a10 lg0
        replace S0 := Lib.hid (S0.out.below b)
        replace BB := Lib.hid (below3 BB.out b)
        clear b
        have ba := (Below.refl w3.heap.size w3).alloc (Nat.le_refl _) (.cells #[.int .i64 0, .slice A1 (n + 1) c1] 24)
        have ka := Bk.new w3 24 #[.int .i64 0, .slice A1 (n + 1) c1]
        have sa := SemW.own (z := 0) (o.below ba) fit0 HL1.out
        have nS0 := S0.out.below ba
        have nbb := below3 BB.out ba
        obtain ⟨g1, hg1⟩ : ∃ g, w3.heap.size = g := ⟨_, rfl⟩
        have hgb := BB.out.size
        obtain ⟨V3, hV3⟩ : ∃ V, w3.alloc (.cells #[.int .i64 0, .slice A1 (n + 1) c1] 24) = V := ⟨_, rfl⟩
        rw [hV3] at ka sa nbb nS0
        rw [hg1] at ka hgb
        have HV3 := Lib.hid hV3
        have Hg1 := Lib.hid hg1
        have HBg1 := Lib.hid hgb
        have S1 := Lib.hid (SV.mk ka sa)
        replace S0 := Lib.hid nS0
        replace BB := Lib.hid nbb
        clear ba ka sa nbb hgb hg1 hV3 nS0
        go_upto_region 7 with fail
        rw [HV3.out]
        try rw [Hg1.out]
        clear HV3 Hg1
        clear o
        have a01 := S1.out.k.c0
        have a11 := S1.out.k.c1
        have lg1 := S1.out.k.lt
        go_wp2_with fail
        refine (pdropC_any 0 A1 (n + 1) c1 (l ++ [id]) id _ S1.out.s FID.out).mono ?_
        rw [HDR.out]
        rintro e w4 ⟨A4, c4, rfl, o, b⟩
        dsimp only at o ⊢
        rw [LX.out]
        clear a01 a11 lg1
        replace S0 := Lib.hid (S0.out.below b)
        replace S1 := Lib.hid (S1.out.below b)
        replace BB := Lib.hid (below3 BB.out b)
        clear b
        have ba := (Below.refl w4.heap.size w4).alloc (Nat.le_refl _) (.cells #[.int .i64 0, .slice A4 n c4] 24)
        have ka := Bk.new w4 24 #[.int .i64 0, .slice A4 n c4]
        have sa := SemW.own (z := 0) (o.below ba) fit0 LX.out
        have nS0 := S0.out.below ba
        have nS1 := S1.out.below ba
        have nbb := below3 BB.out ba
        obtain ⟨g4, hg4⟩ : ∃ g, w4.heap.size = g := ⟨_, rfl⟩
        have hgb := BB.out.size
        obtain ⟨V4, hV4⟩ : ∃ V, w4.alloc (.cells #[.int .i64 0, .slice A4 n c4] 24) = V := ⟨_, rfl⟩
        rw [hV4] at ka sa nbb nS0 nS1
        rw [hg4] at ka hgb
        have HV4 := Lib.hid hV4
        have Hg4 := Lib.hid hg4
        have HBg4 := Lib.hid hgb
        have S4 := Lib.hid (SV.mk ka sa)
        replace S0 := Lib.hid nS0
        replace S1 := Lib.hid nS1
        replace BB := Lib.hid nbb
        clear ba ka sa nbb hgb hg4 hV4 nS0 nS1
        go_upto_region 13 with fail
        rw [HV4.out]
        try rw [Hg4.out]
        clear HV4 Hg4
        clear o
        have a0x := S4.out.k.c0
        have a1x := S4.out.k.c1
        have lgx := S4.out.k.lt
        have a00 := S0.out.k.c0
        have a10 := S0.out.k.c1
        have lg0 := S0.out.k.lt
        go_wp2_with fail
        refine (psame_any 0 0 A4 A n c4 n c l l _ S4.out.s S0.out.s).mono ?_
        rw [HSM.out]
        rintro e w9 ⟨rfl, b⟩
        clear a00 a10 lg0
        clear a0x a1x lgx
        replace S0 := Lib.hid (S0.out.below b)
        replace BB := Lib.hid (below3 BB.out b)
        clear b
        go_wp2_with fail
        go_ret
        exact ⟨rfl, BB.out⟩
    · have HOK := Lib.hid hok
      clear hok h3
      have a00 := S0.out.k.c0
      have a10 := S0.out.k.c1
      have lg0 := S0.out.k.lt
      go_wp2_with fail
      refine (pcheck_any z A n c l _ S0.out.s).mono ?_
      rw [if_neg HOK.out]
      rintro e w2 ⟨rfl, b⟩
      clear a00 a10 lg0
      replace S0 := Lib.hid (S0.out.below b)
      replace BB := Lib.hid (below3 BB.out b)
      clear b
      go_wp2_with fail
      go_ret
      exact ⟨rfl, BB.out⟩

end Go.Proofs.Ytokmogfnliccjaa

/-
  The law SemaOrder: given one by one, who waits goes on in order: the walk.
-/
import Derived.Test.YtokmogfnliccjaaMs
namespace Go.Proofs.Ytokmogfnliccjaa
open Go.RowKit

theorem nth_drop0 {l : List Int} {k : Nat} (h : k < l.length) : nth (l.drop k) 0 = nth l k := by
  rw [nth_get (show 0 < (l.drop k).length by rw [List.length_drop]; omega), nth_get h]
  simp

set_option maxRecDepth 100000 in
set_option maxHeartbeats 8000000 in
theorem lorder_any (z : Int) (A : Option Addr) (n c : Nat) (l : List Int) (w : World) (hnc : n ≤ c ∧ c ≤ 9223372036854775807) (hx : n ≤ 400 → SemW w z A n c l) :
    Calls Try.prog 6 #[.agg #[.int .i64 z, .slice A n c]] w (TrueAns w) := by
  have := hnc; clear this
  by_cases h3 : 300 < n
  · have ka := Bk.new w 24 #[.int .i64 z, .slice A n c]
    have ba := (Below.refl w.heap.size w).alloc (Nat.le_refl _) (.cells #[.int .i64 z, .slice A n c] 24)
    obtain ⟨g0, hg0⟩ : ∃ g, w.heap.size = g := ⟨_, rfl⟩
    obtain ⟨V, hV⟩ : ∃ V, w.alloc (.cells #[.int .i64 z, .slice A n c] 24) = V := ⟨_, rfl⟩
    rw [hV] at ka ba
    rw [hg0] at ka
    have HV := Lib.hid hV
    have HG0 := Lib.hid hg0
    have S0 := Lib.hid ka
    have BB := Lib.hid ba
    clear ka ba hx hV hg0
    go_enter Try.func6, Try.ntmps6
    go_upto_region 1 with fail
    rw [HV.out]
    try rw [HG0.out]
    clear HV HG0
    go_wp2_with fail
    refine (live_any _).mono ?_
    rintro e w1 ⟨rfl, b⟩
    replace S0 := Lib.hid (S0.out.below b S0.out.lt)
    replace BB := Lib.hid (below3 BB.out b)
    clear b
    have a10 := S0.out.c1
    have lg0 := S0.out.lt
    go_wp2_with fail
    go_ret
    exact ⟨rfl, BB.out⟩
  · have hn3 : n ≤ 300 := by omega
    have LX := Lib.hid (hx (by omega)).x.1
    have HX := Lib.hid (hx (by omega))
    by_cases hok : semOk z l
    · have HOK := Lib.hid hok
      by_cases hn0 : 0 < n
      · obtain rfl : z = 0 := by have := hok.1; have := hok.2.2.2.1; have := LX.out; omega
        clear hok h3
        have ka := Bk.new w 24 #[.int .i64 0, .slice A n c]
        have ba := (Below.refl w.heap.size w).alloc (Nat.le_refl _) (.cells #[.int .i64 0, .slice A n c] 24)
        have hx1 := (hx (by omega)).below ba
        obtain ⟨g0, hg0⟩ : ∃ g, w.heap.size = g := ⟨_, rfl⟩
        obtain ⟨V, hV⟩ : ∃ V, w.alloc (.cells #[.int .i64 0, .slice A n c] 24) = V := ⟨_, rfl⟩
        rw [hV] at ka ba hx1
        rw [hg0] at ka
        have HV := Lib.hid hV
        have HG0 := Lib.hid hg0
        have S0 := Lib.hid (SV.mk ka hx1)
        have BB := Lib.hid ba
        clear ka ba hx hx1 hV hg0
        go_enter Try.func6, Try.ntmps6
        go_upto_region 1 with fail
        rw [HV.out]
        try rw [HG0.out]
        clear HV HG0
        go_wp2_with fail
        refine (live_any _).mono ?_
        rintro e w1 ⟨rfl, b⟩
        replace S0 := Lib.hid (S0.out.below b)
        replace BB := Lib.hid (below3 BB.out b)
        clear b
        have a00 := S0.out.k.c0
        have a10 := S0.out.k.c1
        have lg0 := S0.out.k.lt
        go_wp2_with fail
        refine (pcheck_any 0 A n c l _ S0.out.s).mono ?_
        rw [if_pos HOK.out]
        rintro e w2 ⟨rfl, b⟩
        clear a00 a10 lg0
        replace S0 := Lib.hid (S0.out.below b)
        replace BB := Lib.hid (below3 BB.out b)
        clear b
        have a00 := S0.out.k.c0
        have a10 := S0.out.k.c1
        have lg0 := S0.out.k.lt
        have ba := (Below.refl w2.heap.size w2).alloc (Nat.le_refl _) (.cells #[.int .i64 0, .slice A n c] 24)
        have ka := Bk.new w2 24 #[.int .i64 0, .slice A n c]
        have sa := S0.out.s.below ba
        have n0 := S0.out.below ba
        have nbb := below3 BB.out ba
        have hgb := BB.out.size
        obtain ⟨g1, hg1⟩ : ∃ g, w2.heap.size = g := ⟨_, rfl⟩
        obtain ⟨V2, hV2⟩ : ∃ V, w2.alloc (.cells #[.int .i64 0, .slice A n c] 24) = V := ⟨_, rfl⟩
        rw [hV2] at ka sa n0 nbb
        rw [hg1] at ka hgb
        have HV2 := Lib.hid hV2
        have HG1 := Lib.hid hg1
        have HB1 := Lib.hid hgb
        have S1 := Lib.hid (SV.mk ka sa)
        replace S0 := Lib.hid n0
        replace BB := Lib.hid nbb
        clear ba ka sa n0 nbb hgb hg1 hV2
        go_upto_region 7 with fail
        rw [HV2.out]
        try rw [HG1.out]
        clear HV2 HG1
        clear a00 a10 lg0
        have a00 := S0.out.k.c0
        have a10 := S0.out.k.c1
        have lg0 := S0.out.k.lt
        go_wp2_with fail
        go_loopw [30] (fun t wr => ∃ k : Nat, k ≤ n ∧ t = .int .i64 k ∧ ∃ Ak ck, Hid (SV wr g1 0 Ak (n - k) ck (l.drop k)) ∧ Hid (Below w.heap.size w wr)) (fun t _ => n - (intOf t).toNat)
        case atStart => exact ⟨0, Nat.zero_le _, rfl, A, c, S1, BB⟩
        case round =>
          clear S0 S1 BB a00 a10 lg0
          rename World => wr
          obtain ⟨k, hk, rfl, Ak, ck, S1, BB⟩ := hrel
          by_cases hkn : k < n
          · have hkl : k < l.length := by rw [LX.out]; exact hkn
            obtain ⟨bI, oI, eI, hbI, cI⟩ := (HX.out.x.below BB.out).at_ hkn
            subst eI
            obtain ⟨y, hy⟩ : ∃ y, nth l k = y := ⟨_, rfl⟩
            have hgr := give_first (ok_drop HOK.out k) (show 0 < (l.drop k).length by rw [List.length_drop]; omega)
            rw [nth_drop0 hkl, hy, List.drop_drop] at hgr
            rw [hy] at cI
            have HR := Lib.hid hgr
            have HL := Lib.hid (show (l.drop (k + 1)).length = n - (k + 1) by rw [List.length_drop, LX.out])
            have HLT := Lib.hid S1.out.k.lt
            clear hy hgr
            have a01 := S1.out.k.c0
            have a11 := S1.out.k.c1
            have lg1 := S1.out.k.lt
            go_wp2_with fail
            refine (pgiveC_any 0 Ak (n - k) ck (l.drop k) _ S1.out.s).mono ?_
            rw [HR.out]
            rintro e w3 ⟨A3, c3, rfl, o, b⟩
            dsimp only at o ⊢
            rw [HL.out]
            have HAW := Lib.hid (o.away HLT.out)
            clear a01 a11 lg1
            clear cI hbI
            replace S1 := Lib.hid (S1.out.below b)
            replace BB := Lib.hid (below3 BB.out b)
            clear b
            have ba := (Below.refl w3.heap.size w3).alloc (Nat.le_refl _) (.cells #[.int .i64 0, .slice A3 (n - (k + 1)) c3] 24)
            have ka := Bk.new w3 24 #[.int .i64 0, .slice A3 (n - (k + 1)) c3]
            have sa := SemW.own (z := 0) (o.below ba) fit0 HL.out
            have nS1 := S1.out.below ba
            have nbb := below3 BB.out ba
            obtain ⟨g3, hg3⟩ : ∃ g, w3.heap.size = g := ⟨_, rfl⟩
            have hgb := BB.out.size
            obtain ⟨V3, hV3⟩ : ∃ V, w3.alloc (.cells #[.int .i64 0, .slice A3 (n - (k + 1)) c3] 24) = V := ⟨_, rfl⟩
            rw [hV3] at ka sa nbb nS1
            rw [hg3] at ka hgb
            have HV3 := Lib.hid hV3
            have Hg3 := Lib.hid hg3
            have HBg3 := Lib.hid hgb
            have S3 := Lib.hid (SV.mk ka sa)
            replace S1 := Lib.hid nS1
            replace BB := Lib.hid nbb
            clear ba ka sa nbb hgb hg3 hV3 nS1
            go_upto_region 11 with fail
            rw [HV3.out]
            try rw [Hg3.out]
            clear HV3 Hg3
            clear o
            have ty : (y != y) = false := by simp
            have SN := Lib.hid (S1.out.set_ S3.out.s (fun b o e hm => HAW.out b o e (by rw [HL.out]; exact hm)))
            have BN := Lib.hid (below_set2 (g := g1) BB.out HB1.out (.int .i64 0) (.slice A3 (n - (k + 1)) c3))
            have a01 := S1.out.k.c0
            have a11 := S1.out.k.c1
            have lg1 := S1.out.k.lt
            have a03 := S3.out.k.c0
            have a13 := S3.out.k.c1
            have lg3 := S3.out.k.lt
            have f10 := S1.out.k.frozen 0
            have f11 := S1.out.k.frozen 1
            clear S1 S3 BB
            go_wp2_with fail
            go_roundw
            case rel => exact ⟨k + 1, by omega, by go_num, A3, c3, SN, BN⟩
            case measure => simp [intOf]; omega
          · have hkn2 : k = n := by omega
            have hd := S1.out
            rw [hkn2, Nat.sub_self, show l.drop n = [] from List.drop_eq_nil_of_le (by rw [LX.out]; exact Nat.le_refl _)] at hd
            have S2 := Lib.hid hd
            clear S1 hd hkn2
            have HG := Lib.hid (show giveR 0 [] = (0, -1, 1, []) from give_more (ok_one 0 (by decide)) rfl (by decide))
            have FZ1 : Hid (Fit 1) := Lib.hid (by decide)
            have a02 := S2.out.k.c0
            have a12 := S2.out.k.c1
            have lg2 := S2.out.k.lt
            go_wp2_with fail
            refine (pgiveC_any 0 Ak 0 ck [] _ S2.out.s).mono ?_
            rw [HG.out]
            rintro e w5 ⟨A5, c5, rfl, o, b⟩
            dsimp only at o ⊢
            clear a02 a12 lg2
            replace S2 := Lib.hid (S2.out.below b)
            replace BB := Lib.hid (below3 BB.out b)
            clear b
            have ba := (Below.refl w5.heap.size w5).alloc (Nat.le_refl _) (.cells #[.int .i64 1, .slice A5 0 c5] 24)
            have ka := Bk.new w5 24 #[.int .i64 1, .slice A5 0 c5]
            have sa := SemW.own (z := 1) (o.below ba) FZ1.out rfl
            have nS2 := S2.out.below ba
            have nbb := below3 BB.out ba
            obtain ⟨g5, hg5⟩ : ∃ g, w5.heap.size = g := ⟨_, rfl⟩
            have hgb := BB.out.size
            obtain ⟨V5, hV5⟩ : ∃ V, w5.alloc (.cells #[.int .i64 1, .slice A5 0 c5] 24) = V := ⟨_, rfl⟩
            rw [hV5] at ka sa nbb nS2
            rw [hg5] at ka hgb
            have HV5 := Lib.hid hV5
            have Hg5 := Lib.hid hg5
            have HBg5 := Lib.hid hgb
            have S5 := Lib.hid (SV.mk ka sa)
            replace S2 := Lib.hid nS2
            replace BB := Lib.hid nbb
            clear ba ka sa nbb hgb hg5 hV5 nS2
            go_upto_region 16 with fail
            rw [HV5.out]
            try rw [Hg5.out]
            clear HV5 Hg5
            clear o
            have a02 := S2.out.k.c0
            have a12 := S2.out.k.c1
            have lg2 := S2.out.k.lt
            have a05 := S5.out.k.c0
            have a15 := S5.out.k.c1
            have lg5 := S5.out.k.lt
            go_wp2_with fail
            go_ret
            exact ⟨rfl, BB.out⟩
      · have HN0 : Hid (n = 0) := Lib.hid (by omega)
        clear hok h3 hn0
        have ka := Bk.new w 24 #[.int .i64 z, .slice A n c]
        have ba := (Below.refl w.heap.size w).alloc (Nat.le_refl _) (.cells #[.int .i64 z, .slice A n c] 24)
        have hx1 := (hx (by omega)).below ba
        obtain ⟨g0, hg0⟩ : ∃ g, w.heap.size = g := ⟨_, rfl⟩
        obtain ⟨V, hV⟩ : ∃ V, w.alloc (.cells #[.int .i64 z, .slice A n c] 24) = V := ⟨_, rfl⟩
        rw [hV] at ka ba hx1
        rw [hg0] at ka
        have HV := Lib.hid hV
        have HG0 := Lib.hid hg0
        have S0 := Lib.hid (SV.mk ka hx1)
        have BB := Lib.hid ba
        clear ka ba hx hx1 hV hg0
        go_enter Try.func6, Try.ntmps6
        go_upto_region 1 with fail
        rw [HV.out]
        try rw [HG0.out]
        clear HV HG0
        go_wp2_with fail
        refine (live_any _).mono ?_
        rintro e w1 ⟨rfl, b⟩
        replace S0 := Lib.hid (S0.out.below b)
        replace BB := Lib.hid (below3 BB.out b)
        clear b
        have a00 := S0.out.k.c0
        have a10 := S0.out.k.c1
        have lg0 := S0.out.k.lt
        go_wp2_with fail
        refine (pcheck_any z A n c l _ S0.out.s).mono ?_
        rw [if_pos HOK.out]
        rintro e w2 ⟨rfl, b⟩
        clear a00 a10 lg0
        replace S0 := Lib.hid (S0.out.below b)
        replace BB := Lib.hid (below3 BB.out b)
        clear b
        have a00 := S0.out.k.c0
        have a10 := S0.out.k.c1
        have lg0 := S0.out.k.lt
        have ba := (Below.refl w2.heap.size w2).alloc (Nat.le_refl _) (.cells #[.int .i64 z, .slice A n c] 24)
        have ka := Bk.new w2 24 #[.int .i64 z, .slice A n c]
        have sa := S0.out.s.below ba
        have n0 := S0.out.below ba
        have nbb := below3 BB.out ba
        have hgb := BB.out.size
        obtain ⟨g1, hg1⟩ : ∃ g, w2.heap.size = g := ⟨_, rfl⟩
        obtain ⟨V2, hV2⟩ : ∃ V, w2.alloc (.cells #[.int .i64 z, .slice A n c] 24) = V := ⟨_, rfl⟩
        rw [hV2] at ka sa n0 nbb
        rw [hg1] at ka hgb
        have HV2 := Lib.hid hV2
        have HG1 := Lib.hid hg1
        have HB1 := Lib.hid hgb
        have S1 := Lib.hid (SV.mk ka sa)
        replace S0 := Lib.hid n0
        replace BB := Lib.hid nbb
        clear ba ka sa n0 nbb hgb hg1 hV2
        go_upto_region 7 with fail
        rw [HV2.out]
        try rw [HG1.out]
        clear HV2 HG1
        clear a00 a10 lg0
        have a00 := S0.out.k.c0
        have a10 := S0.out.k.c1
        have lg0 := S0.out.k.lt
        go_wp2_with fail
        go_loopw [30] (fun t wr => ∃ k : Nat, k ≤ n ∧ t = .int .i64 k ∧ ∃ Ak ck, Hid (SV wr g1 z Ak (n - k) ck (l.drop k)) ∧ Hid (Below w.heap.size w wr)) (fun t _ => n - (intOf t).toNat)
        case atStart => exact ⟨0, Nat.zero_le _, rfl, A, c, S1, BB⟩
        case round =>
          clear S0 S1 BB a00 a10 lg0
          rename World => wr
          obtain ⟨k, hk, rfl, Ak, ck, S1, BB⟩ := hrel
          by_cases hkn : k < n
          · exact absurd hkn (by rw [HN0.out]; omega)
          · have hkn2 : k = n := by omega
            have hd := S1.out
            rw [hkn2, Nat.sub_self, show l.drop n = [] from List.drop_eq_nil_of_le (by rw [LX.out]; exact Nat.le_refl _)] at hd
            have S2 := Lib.hid hd
            clear S1 hd hkn2
            have FZ := Lib.hid S2.out.s.f
            by_cases hz : z = 1000
            · have HG := Lib.hid (show giveR z [] = (4, 0, 0, []) by rw [hz]; exact give_full (ok_one 1000 (by decide)) rfl)
              have FZ1 := Lib.hid fit0
              have tz : (z == 1000) = true := by simpa using hz
              clear hz
              have a02 := S2.out.k.c0
              have a12 := S2.out.k.c1
              have lg2 := S2.out.k.lt
              go_wp2_with fail
              refine (pgiveC_any z Ak 0 ck [] _ S2.out.s).mono ?_
              rw [HG.out]
              rintro e w5 ⟨A5, c5, rfl, o, b⟩
              dsimp only at o ⊢
              clear a02 a12 lg2
              replace S2 := Lib.hid (S2.out.below b)
              replace BB := Lib.hid (below3 BB.out b)
              clear b
              have ba := (Below.refl w5.heap.size w5).alloc (Nat.le_refl _) (.cells #[.int .i64 0, .slice A5 0 c5] 24)
              have ka := Bk.new w5 24 #[.int .i64 0, .slice A5 0 c5]
              have sa := SemW.own (z := 0) (o.below ba) FZ1.out rfl
              have nS2 := S2.out.below ba
              have nbb := below3 BB.out ba
              obtain ⟨g5, hg5⟩ : ∃ g, w5.heap.size = g := ⟨_, rfl⟩
              have hgb := BB.out.size
              obtain ⟨V5, hV5⟩ : ∃ V, w5.alloc (.cells #[.int .i64 0, .slice A5 0 c5] 24) = V := ⟨_, rfl⟩
              rw [hV5] at ka sa nbb nS2
              rw [hg5] at ka hgb
              have HV5 := Lib.hid hV5
              have Hg5 := Lib.hid hg5
              have HBg5 := Lib.hid hgb
              have S5 := Lib.hid (SV.mk ka sa)
              replace S2 := Lib.hid nS2
              replace BB := Lib.hid nbb
              clear ba ka sa nbb hgb hg5 hV5 nS2
              go_upto_region 16 with fail
              rw [HV5.out]
              try rw [Hg5.out]
              clear HV5 Hg5
              clear o
              have a02 := S2.out.k.c0
              have a12 := S2.out.k.c1
              have lg2 := S2.out.k.lt
              have a05 := S5.out.k.c0
              have a15 := S5.out.k.c1
              have lg5 := S5.out.k.lt
              go_wp2_with fail
              go_ret
              exact ⟨rfl, BB.out⟩
            · have HG := Lib.hid (show giveR z [] = (0, -1, z + 1, []) from give_more (ok_one z ⟨HOK.out.1, HOK.out.2.1⟩) rfl hz)
              have tz : (z == 1000) = false := by simpa using hz
              have FZ1 : Hid (Fit (z + 1)) := Lib.hid (by unfold Fit; have := HOK.out.1; have := HOK.out.2.1; omega)
              have hz1 : z + 1 ≤ 9223372036854775807 ∧ -9223372036854775808 ≤ z + 1 := FZ1.out.symm
              clear hz
              have a02 := S2.out.k.c0
              have a12 := S2.out.k.c1
              have lg2 := S2.out.k.lt
              go_wp2_with fail
              refine (pgiveC_any z Ak 0 ck [] _ S2.out.s).mono ?_
              rw [HG.out]
              rintro e w5 ⟨A5, c5, rfl, o, b⟩
              dsimp only at o ⊢
              clear a02 a12 lg2
              replace S2 := Lib.hid (S2.out.below b)
              replace BB := Lib.hid (below3 BB.out b)
              clear b
              have ba := (Below.refl w5.heap.size w5).alloc (Nat.le_refl _) (.cells #[.int .i64 (z + 1), .slice A5 0 c5] 24)
              have ka := Bk.new w5 24 #[.int .i64 (z + 1), .slice A5 0 c5]
              have sa := SemW.own (z := (z + 1)) (o.below ba) FZ1.out rfl
              have nS2 := S2.out.below ba
              have nbb := below3 BB.out ba
              obtain ⟨g5, hg5⟩ : ∃ g, w5.heap.size = g := ⟨_, rfl⟩
              have hgb := BB.out.size
              obtain ⟨V5, hV5⟩ : ∃ V, w5.alloc (.cells #[.int .i64 (z + 1), .slice A5 0 c5] 24) = V := ⟨_, rfl⟩
              rw [hV5] at ka sa nbb nS2
              rw [hg5] at ka hgb
              have HV5 := Lib.hid hV5
              have Hg5 := Lib.hid hg5
              have HBg5 := Lib.hid hgb
              have S5 := Lib.hid (SV.mk ka sa)
              replace S2 := Lib.hid nS2
              replace BB := Lib.hid nbb
              clear ba ka sa nbb hgb hg5 hV5 nS2
              go_upto_region 16 with fail
              rw [HV5.out]
              try rw [Hg5.out]
              clear HV5 Hg5
              clear o
              have a02 := S2.out.k.c0
              have a12 := S2.out.k.c1
              have lg2 := S2.out.k.lt
              have a05 := S5.out.k.c0
              have a15 := S5.out.k.c1
              have lg5 := S5.out.k.lt
              go_wp2_with fail
              go_ret
              exact ⟨rfl, BB.out⟩
    · have HOK := Lib.hid hok
      clear hok h3
      have ka := Bk.new w 24 #[.int .i64 z, .slice A n c]
      have ba := (Below.refl w.heap.size w).alloc (Nat.le_refl _) (.cells #[.int .i64 z, .slice A n c] 24)
      have hx1 := (hx (by omega)).below ba
      obtain ⟨g0, hg0⟩ : ∃ g, w.heap.size = g := ⟨_, rfl⟩
      obtain ⟨V, hV⟩ : ∃ V, w.alloc (.cells #[.int .i64 z, .slice A n c] 24) = V := ⟨_, rfl⟩
      rw [hV] at ka ba hx1
      rw [hg0] at ka
      have HV := Lib.hid hV
      have HG0 := Lib.hid hg0
      have S0 := Lib.hid (SV.mk ka hx1)
      have BB := Lib.hid ba
      clear ka ba hx hx1 hV hg0
      go_enter Try.func6, Try.ntmps6
      go_upto_region 1 with fail
      rw [HV.out]
      try rw [HG0.out]
      clear HV HG0
      go_wp2_with fail
      refine (live_any _).mono ?_
      rintro e w1 ⟨rfl, b⟩
      replace S0 := Lib.hid (S0.out.below b)
      replace BB := Lib.hid (below3 BB.out b)
      clear b
      have a00 := S0.out.k.c0
      have a10 := S0.out.k.c1
      have lg0 := S0.out.k.lt
      go_wp2_with fail
      refine (pcheck_any z A n c l _ S0.out.s).mono ?_
      rw [if_neg HOK.out]
      rintro e w2 ⟨rfl, b⟩
      clear a00 a10 lg0
      replace S0 := Lib.hid (S0.out.below b)
      replace BB := Lib.hid (below3 BB.out b)
      clear b
      go_wp2_with fail
      go_ret
      exact ⟨rfl, BB.out⟩

end Go.Proofs.Ytokmogfnliccjaa

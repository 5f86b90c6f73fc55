/-
  Layer 10, the program: New, Take, Give, Drop answer what the document's do.
-/
import Derived.Test.YtokmogfnliccjaaPh
namespace Go.Proofs.Ytokmogfnliccjaa
open Go.RowKit

set_option maxHeartbeats 8000000 in
theorem ptakeC_any (z : Int) (A : Option Addr) (n c : Nat) (l : List Int) (id : Int) (w : World) (h : SemW w z A n c l) (fid : Fit id) : Calls Try.prog 11 #[.agg #[.int .i64 z, .slice A n c], .int .i64 id] w (TakeA (takeR z l id) w) := by
  have FID := Lib.hid fid
  clear fid
  by_cases hok : semOk z l
  · have HOK := Lib.hid hok
    have hn256 : n ≤ 256 := by rw [← h.x.1]; exact hok.2.2.1
    by_cases hid : id < 0
    · rw [show takeR z l id = (1, false, 0, []) by unfold takeR; rw [if_neg (fun q => q hok), if_pos hid]]
      have t0 : decide (id < 0) = true := decide_eq_true hid
      clear hok hid
      obtain ⟨k1, k2, hb0⟩ := lies2 w #[.int .i64 z, .slice A n c] #[.int .i64 0, .slice none 0 0] 24 24
      have hx1 := h.below hb0
      have LX := Lib.hid h.x.1
      have hvs : ((w.alloc (.cells #[.int .i64 z, .slice A n c] 24)).alloc (.cells #[.int .i64 0, .slice none 0 0] 24)).heap.size = w.heap.size + 2 := by simp
      obtain ⟨V, hV⟩ : ∃ V, (w.alloc (.cells #[.int .i64 z, .slice A n c] 24)).alloc (.cells #[.int .i64 0, .slice none 0 0] 24) = V := ⟨_, rfl⟩
      rw [hV] at k1 k2 hb0 hx1 hvs
      have HV := Lib.hid hV
      have HVS := Lib.hid hvs
      have HX := Lib.hid hx1
      have K1 := Lib.hid k1
      have K2 := Lib.hid k2
      have BB := Lib.hid hb0
      have a0 := K1.out.c0
      have a1 := K1.out.c1
      have lg := K1.out.lt
      clear h k1 k2 hb0 hx1 hV hvs
      go_enter Try.func11, Try.ntmps11
      go_upto_region 1 with fail
      rw [HV.out]
      clear HV
      go_wp2_with fail
      refine (pgate_any z _ n c _ _ HX.out).mono ?_
      rintro e w1 (⟨hok1, g, A1, c1, b1, rfl, gs, b⟩ | ⟨hok1, rfl, b⟩)
      · have GG := Lib.hid gs
        have HGV : Hid (w.heap.size + 1 < g ∧ w.heap.size + 1 < V.heap.size ∧ w.heap.size ≤ V.heap.size) := Lib.hid (by have := gs.hb; have := HVS.out; omega)
        replace K2 := Lib.hid (K2.out.below b K2.out.lt)
        replace BB := Lib.hid (below3 BB.out b)
        clear gs b a0 a1 lg hok1 K1 HX
        have r0 := K2.out.c0
        have r1 := K2.out.c1
        have f0 := K2.out.frozen 0
        have f1 := K2.out.frozen 1
        have lr := K2.out.lt
        have HB := Lib.hid (below_set2 (g := w.heap.size + 1) BB.out (Nat.le_succ _) (.int .i64 0) (.slice none 0 0))
        go_wp2_with fail
        exact bodyPost_ret (v := .tuple #[.bool false, .agg #[.int .i64 0, .slice none 0 0], .int .i64 1]) (by simp [results, Try.results11, go_sem, *]) rfl ⟨none, 0, rfl, OwnI.nil_ _ _ _, HB.out⟩
      · exact absurd HOK.out hok1
    · have t0 : decide (id < 0) = false := decide_eq_false hid
      by_cases hm : id ∈ l
      · rw [show takeR z l id = (6, false, 0, []) by unfold takeR; rw [if_neg (fun q => q hok), if_neg hid, if_pos hm]]
        have HM := Lib.hid (hasB_yes hm)
        clear hok hid hm
        obtain ⟨k1, k2, hb0⟩ := lies2 w #[.int .i64 z, .slice A n c] #[.int .i64 0, .slice none 0 0] 24 24
        have hx1 := h.below hb0
        have LX := Lib.hid h.x.1
        have hvs : ((w.alloc (.cells #[.int .i64 z, .slice A n c] 24)).alloc (.cells #[.int .i64 0, .slice none 0 0] 24)).heap.size = w.heap.size + 2 := by simp
        obtain ⟨V, hV⟩ : ∃ V, (w.alloc (.cells #[.int .i64 z, .slice A n c] 24)).alloc (.cells #[.int .i64 0, .slice none 0 0] 24) = V := ⟨_, rfl⟩
        rw [hV] at k1 k2 hb0 hx1 hvs
        have HV := Lib.hid hV
        have HVS := Lib.hid hvs
        have HX := Lib.hid hx1
        have K1 := Lib.hid k1
        have K2 := Lib.hid k2
        have BB := Lib.hid hb0
        have a0 := K1.out.c0
        have a1 := K1.out.c1
        have lg := K1.out.lt
        clear h k1 k2 hb0 hx1 hV hvs
        go_enter Try.func11, Try.ntmps11
        go_upto_region 1 with fail
        rw [HV.out]
        clear HV
        go_wp2_with fail
        refine (pgate_any z _ n c _ _ HX.out).mono ?_
        rintro e w1 (⟨hok1, g, A1, c1, b1, rfl, gs, b⟩ | ⟨hok1, rfl, b⟩)
        · have GG := Lib.hid gs
          have HGV : Hid (w.heap.size + 1 < g ∧ w.heap.size + 1 < V.heap.size ∧ w.heap.size ≤ V.heap.size) := Lib.hid (by have := gs.hb; have := HVS.out; omega)
          replace K2 := Lib.hid (K2.out.below b K2.out.lt)
          replace BB := Lib.hid (below3 BB.out b)
          clear gs b a0 a1 lg hok1 K1 HX
          go_wp2_with fail
          have q2 := GG.out.c2
          have lq := GG.out.lt
          refine (phas_any g b1 n _ id _ q2 lq GG.out.s FID.out).mono ?_
          rw [HM.out]
          rintro e w2 ⟨rfl, b⟩
          clear q2 lq
          replace GG := Lib.hid (GG.out.below b)
          replace K2 := Lib.hid (K2.out.below b K2.out.lt)
          replace BB := Lib.hid (below3 BB.out b)
          clear b
          have r0 := K2.out.c0
          have r1 := K2.out.c1
          have f0 := K2.out.frozen 0
          have f1 := K2.out.frozen 1
          have lr := K2.out.lt
          have HB := Lib.hid (below_set2 (g := w.heap.size + 1) BB.out (Nat.le_succ _) (.int .i64 0) (.slice none 0 0))
          go_wp2_with fail
          exact bodyPost_ret (v := .tuple #[.bool false, .agg #[.int .i64 0, .slice none 0 0], .int .i64 6]) (by simp [results, Try.results11, go_sem, *]) rfl ⟨none, 0, rfl, OwnI.nil_ _ _ _, HB.out⟩
        · exact absurd HOK.out hok1
      · have HM := Lib.hid (hasB_no hm)
        by_cases h0 : 0 < z
        · rw [show takeR z l id = (0, true, z - 1, []) by unfold takeR; rw [if_neg (fun q => q hok), if_neg hid, if_neg hm, if_pos h0]]
          have hl0 : l.length = 0 := by have := hok.2.2.2.1; omega
          have HN0 : Hid (n = 0) := Lib.hid (by rw [← h.x.1]; exact hl0)
          have HLN : Hid (l = []) := Lib.hid (List.eq_nil_of_length_eq_zero hl0)
          have HZ := Lib.hid (And.intro (show z ≠ 0 by omega) (And.intro hok.1 hok.2.1))
          clear hok hid hm h0 hl0
          obtain ⟨k1, k2, hb0⟩ := lies2 w #[.int .i64 z, .slice A n c] #[.int .i64 0, .slice none 0 0] 24 24
          have hx1 := h.below hb0
          have LX := Lib.hid h.x.1
          have hvs : ((w.alloc (.cells #[.int .i64 z, .slice A n c] 24)).alloc (.cells #[.int .i64 0, .slice none 0 0] 24)).heap.size = w.heap.size + 2 := by simp
          obtain ⟨V, hV⟩ : ∃ V, (w.alloc (.cells #[.int .i64 z, .slice A n c] 24)).alloc (.cells #[.int .i64 0, .slice none 0 0] 24) = V := ⟨_, rfl⟩
          rw [hV] at k1 k2 hb0 hx1 hvs
          have HV := Lib.hid hV
          have HVS := Lib.hid hvs
          have HX := Lib.hid hx1
          have K1 := Lib.hid k1
          have K2 := Lib.hid k2
          have BB := Lib.hid hb0
          have a0 := K1.out.c0
          have a1 := K1.out.c1
          have lg := K1.out.lt
          clear h k1 k2 hb0 hx1 hV hvs
          go_enter Try.func11, Try.ntmps11
          go_upto_region 1 with fail
          rw [HV.out]
          clear HV
          go_wp2_with fail
          refine (pgate_any z _ n c _ _ HX.out).mono ?_
          rintro e w1 (⟨hok1, g, A1, c1, b1, rfl, gs, b⟩ | ⟨hok1, rfl, b⟩)
          · have GG := Lib.hid gs
            have HGV : Hid (w.heap.size + 1 < g ∧ w.heap.size + 1 < V.heap.size ∧ w.heap.size ≤ V.heap.size) := Lib.hid (by have := gs.hb; have := HVS.out; omega)
            replace K2 := Lib.hid (K2.out.below b K2.out.lt)
            replace BB := Lib.hid (below3 BB.out b)
            clear gs b a0 a1 lg hok1 K1 HX
            go_wp2_with fail
            have q2 := GG.out.c2
            have lq := GG.out.lt
            refine (phas_any g b1 n _ id _ q2 lq GG.out.s FID.out).mono ?_
            rw [HM.out]
            rintro e w2 ⟨rfl, b⟩
            clear q2 lq
            replace GG := Lib.hid (GG.out.below b)
            replace K2 := Lib.hid (K2.out.below b K2.out.lt)
            replace BB := Lib.hid (below3 BB.out b)
            clear b
            go_wp2_with fail
            refine (ptake_yes GG.out HZ.out.1 HZ.out.2).mono ?_
            rintro e w3 ⟨rfl, gs, b⟩
            replace GG := Lib.hid gs
            replace K2 := Lib.hid (K2.out.below b HGV.out.2.1)
            replace BB := Lib.hid (BB.out.trans (b.mono HGV.out.2.2))
            clear gs b
            go_wp2_with fail
            have q0 := GG.out.c0
            have q1 := GG.out.c1
            have lq := GG.out.lt
            refine (psem_any g (z - 1) A1 n c1 _ q0 q1 lq).mono ?_
            rintro e w9 ⟨rfl, b⟩
            clear q0 q1 lq
            replace GG := Lib.hid (GG.out.below b)
            replace K2 := Lib.hid (K2.out.below b K2.out.lt)
            replace BB := Lib.hid (below3 BB.out b)
            clear b
            have r0 := K2.out.c0
            have r1 := K2.out.c1
            have f0 := K2.out.frozen 0
            have f1 := K2.out.frozen 1
            have lr := K2.out.lt
            have HB := Lib.hid (below_set2 (g := w.heap.size + 1) BB.out (Nat.le_succ _) (.int .i64 (z - 1)) (.slice A1 n c1))
            have HN := Lib.hid ((OwnI.past2 (g := w.heap.size + 1) (HLN.out ▸ GG.out.o) (by have := HGV.out.1; omega) (.int .i64 (z - 1)) (.slice A1 n c1)).base (show w.heap.size ≤ g + 1 by have := HGV.out.1; omega))
            go_wp2_with fail
            exact bodyPost_ret (v := .tuple #[.bool true, .agg #[.int .i64 (z - 1), .slice A1 n c1], .int .i64 0]) (by simp [results, Try.results11, go_sem, *]) rfl ⟨_, _, (by simp [HN0.out]), HN.out, HB.out⟩
          · exact absurd HOK.out hok1
        · obtain rfl : z = 0 := by have := hok.1; omega
          by_cases h6 : l.length = 256
          · rw [show takeR 0 l id = (7, false, 0, []) by unfold takeR; rw [if_neg (fun q => q hok), if_neg hid, if_neg hm, if_neg h0, if_pos h6]]
            have HF := Lib.hid (show decide (256 ≤ n) = true from decide_eq_true (by rw [← h.x.1]; omega))
            clear hok hid hm h0 h6
            obtain ⟨k1, k2, hb0⟩ := lies2 w #[.int .i64 0, .slice A n c] #[.int .i64 0, .slice none 0 0] 24 24
            have hx1 := h.below hb0
            have LX := Lib.hid h.x.1
            have hvs : ((w.alloc (.cells #[.int .i64 0, .slice A n c] 24)).alloc (.cells #[.int .i64 0, .slice none 0 0] 24)).heap.size = w.heap.size + 2 := by simp
            obtain ⟨V, hV⟩ : ∃ V, (w.alloc (.cells #[.int .i64 0, .slice A n c] 24)).alloc (.cells #[.int .i64 0, .slice none 0 0] 24) = V := ⟨_, rfl⟩
            rw [hV] at k1 k2 hb0 hx1 hvs
            have HV := Lib.hid hV
            have HVS := Lib.hid hvs
            have HX := Lib.hid hx1
            have K1 := Lib.hid k1
            have K2 := Lib.hid k2
            have BB := Lib.hid hb0
            have a0 := K1.out.c0
            have a1 := K1.out.c1
            have lg := K1.out.lt
            clear h k1 k2 hb0 hx1 hV hvs
            go_enter Try.func11, Try.ntmps11
            go_upto_region 1 with fail
            rw [HV.out]
            clear HV
            go_wp2_with fail
            refine (pgate_any 0 _ n c _ _ HX.out).mono ?_
            rintro e w1 (⟨hok1, g, A1, c1, b1, rfl, gs, b⟩ | ⟨hok1, rfl, b⟩)
            · have GG := Lib.hid gs
              have HGV : Hid (w.heap.size + 1 < g ∧ w.heap.size + 1 < V.heap.size ∧ w.heap.size ≤ V.heap.size) := Lib.hid (by have := gs.hb; have := HVS.out; omega)
              replace K2 := Lib.hid (K2.out.below b K2.out.lt)
              replace BB := Lib.hid (below3 BB.out b)
              clear gs b a0 a1 lg hok1 K1 HX
              go_wp2_with fail
              have q2 := GG.out.c2
              have lq := GG.out.lt
              refine (phas_any g b1 n _ id _ q2 lq GG.out.s FID.out).mono ?_
              rw [HM.out]
              rintro e w2 ⟨rfl, b⟩
              clear q2 lq
              replace GG := Lib.hid (GG.out.below b)
              replace K2 := Lib.hid (K2.out.below b K2.out.lt)
              replace BB := Lib.hid (below3 BB.out b)
              clear b
              go_wp2_with fail
              have q0 := GG.out.c0
              have lq := GG.out.lt
              refine (ptake_no g _ q0 lq).mono ?_
              rintro e w3 ⟨rfl, b⟩
              clear q0 lq
              replace GG := Lib.hid (GG.out.below b)
              replace K2 := Lib.hid (K2.out.below b K2.out.lt)
              replace BB := Lib.hid (below3 BB.out b)
              clear b
              go_wp2_with fail
              have q1 := GG.out.c1
              have lq := GG.out.lt
              refine (pfull_any g A1 n c1 _ q1 lq (by omega)).mono ?_
              rw [HF.out]
              rintro e w4 ⟨rfl, b⟩
              clear q1 lq
              replace GG := Lib.hid (GG.out.below b)
              replace K2 := Lib.hid (K2.out.below b K2.out.lt)
              replace BB := Lib.hid (below3 BB.out b)
              clear b
              have r0 := K2.out.c0
              have r1 := K2.out.c1
              have f0 := K2.out.frozen 0
              have f1 := K2.out.frozen 1
              have lr := K2.out.lt
              have HB := Lib.hid (below_set2 (g := w.heap.size + 1) BB.out (Nat.le_succ _) (.int .i64 0) (.slice none 0 0))
              go_wp2_with fail
              exact bodyPost_ret (v := .tuple #[.bool false, .agg #[.int .i64 0, .slice none 0 0], .int .i64 7]) (by simp [results, Try.results11, go_sem, *]) rfl ⟨none, 0, rfl, OwnI.nil_ _ _ _, HB.out⟩
            · exact absurd HOK.out hok1
          · rw [show takeR 0 l id = (0, false, 0, l ++ [id]) by unfold takeR; rw [if_neg (fun q => q hok), if_neg hid, if_neg hm, if_neg h0, if_neg h6]]
            have HF := Lib.hid (show decide (256 ≤ n) = false from decide_eq_false (by have := h.x.1; omega))
            clear hok hid hm h0 h6
            obtain ⟨k1, k2, hb0⟩ := lies2 w #[.int .i64 0, .slice A n c] #[.int .i64 0, .slice none 0 0] 24 24
            have hx1 := h.below hb0
            have LX := Lib.hid h.x.1
            have hvs : ((w.alloc (.cells #[.int .i64 0, .slice A n c] 24)).alloc (.cells #[.int .i64 0, .slice none 0 0] 24)).heap.size = w.heap.size + 2 := by simp
            obtain ⟨V, hV⟩ : ∃ V, (w.alloc (.cells #[.int .i64 0, .slice A n c] 24)).alloc (.cells #[.int .i64 0, .slice none 0 0] 24) = V := ⟨_, rfl⟩
            rw [hV] at k1 k2 hb0 hx1 hvs
            have HV := Lib.hid hV
            have HVS := Lib.hid hvs
            have HX := Lib.hid hx1
            have K1 := Lib.hid k1
            have K2 := Lib.hid k2
            have BB := Lib.hid hb0
            have a0 := K1.out.c0
            have a1 := K1.out.c1
            have lg := K1.out.lt
            clear h k1 k2 hb0 hx1 hV hvs
            go_enter Try.func11, Try.ntmps11
            go_upto_region 1 with fail
            rw [HV.out]
            clear HV
            go_wp2_with fail
            refine (pgate_any 0 _ n c _ _ HX.out).mono ?_
            rintro e w1 (⟨hok1, g, A1, c1, b1, rfl, gs, b⟩ | ⟨hok1, rfl, b⟩)
            · have GG := Lib.hid gs
              have HGV : Hid (w.heap.size + 1 < g ∧ w.heap.size + 1 < V.heap.size ∧ w.heap.size ≤ V.heap.size) := Lib.hid (by have := gs.hb; have := HVS.out; omega)
              replace K2 := Lib.hid (K2.out.below b K2.out.lt)
              replace BB := Lib.hid (below3 BB.out b)
              clear gs b a0 a1 lg hok1 K1 HX
              go_wp2_with fail
              have q2 := GG.out.c2
              have lq := GG.out.lt
              refine (phas_any g b1 n _ id _ q2 lq GG.out.s FID.out).mono ?_
              rw [HM.out]
              rintro e w2 ⟨rfl, b⟩
              clear q2 lq
              replace GG := Lib.hid (GG.out.below b)
              replace K2 := Lib.hid (K2.out.below b K2.out.lt)
              replace BB := Lib.hid (below3 BB.out b)
              clear b
              go_wp2_with fail
              have q0 := GG.out.c0
              have lq := GG.out.lt
              refine (ptake_no g _ q0 lq).mono ?_
              rintro e w3 ⟨rfl, b⟩
              clear q0 lq
              replace GG := Lib.hid (GG.out.below b)
              replace K2 := Lib.hid (K2.out.below b K2.out.lt)
              replace BB := Lib.hid (below3 BB.out b)
              clear b
              go_wp2_with fail
              have q1 := GG.out.c1
              have lq := GG.out.lt
              refine (pfull_any g A1 n c1 _ q1 lq (by omega)).mono ?_
              rw [HF.out]
              rintro e w4 ⟨rfl, b⟩
              clear q1 lq
              replace GG := Lib.hid (GG.out.below b)
              replace K2 := Lib.hid (K2.out.below b K2.out.lt)
              replace BB := Lib.hid (below3 BB.out b)
              clear b
              go_wp2_with fail
              refine (pjoin_any GG.out id FID.out (by omega) (by omega)).mono ?_
              rintro e w5 ⟨rfl, ⟨A5, c5, gs⟩, b⟩
              replace GG := Lib.hid gs
              replace K2 := Lib.hid (K2.out.below b HGV.out.2.1)
              replace BB := Lib.hid (BB.out.trans (b.mono HGV.out.2.2))
              clear gs b
              go_wp2_with fail
              have q0 := GG.out.c0
              have q1 := GG.out.c1
              have lq := GG.out.lt
              refine (psem_any g 0 A5 (n + 1) c5 _ q0 q1 lq).mono ?_
              rintro e w9 ⟨rfl, b⟩
              clear q0 q1 lq
              replace GG := Lib.hid (GG.out.below b)
              replace K2 := Lib.hid (K2.out.below b K2.out.lt)
              replace BB := Lib.hid (below3 BB.out b)
              clear b
              have r0 := K2.out.c0
              have r1 := K2.out.c1
              have f0 := K2.out.frozen 0
              have f1 := K2.out.frozen 1
              have lr := K2.out.lt
              have HB := Lib.hid (below_set2 (g := w.heap.size + 1) BB.out (Nat.le_succ _) (.int .i64 0) (.slice A5 (n + 1) c5))
              have HN := Lib.hid ((OwnI.past2 (g := w.heap.size + 1) GG.out.o (by have := HGV.out.1; omega) (.int .i64 0) (.slice A5 (n + 1) c5)).base (show w.heap.size ≤ g + 1 by have := HGV.out.1; omega))
              go_wp2_with fail
              exact bodyPost_ret (v := .tuple #[.bool false, .agg #[.int .i64 0, .slice A5 (n + 1) c5], .int .i64 0]) (by simp [results, Try.results11, go_sem, *]) rfl ⟨_, _, (by simp [LX.out]), HN.out, HB.out⟩
            · exact absurd HOK.out hok1
  · rw [show takeR z l id = (1, false, 0, []) by unfold takeR; rw [if_pos hok]]
    have HNO := Lib.hid hok
    clear hok
    obtain ⟨k1, k2, hb0⟩ := lies2 w #[.int .i64 z, .slice A n c] #[.int .i64 0, .slice none 0 0] 24 24
    have hx1 := h.below hb0
    have LX := Lib.hid h.x.1
    have hvs : ((w.alloc (.cells #[.int .i64 z, .slice A n c] 24)).alloc (.cells #[.int .i64 0, .slice none 0 0] 24)).heap.size = w.heap.size + 2 := by simp
    obtain ⟨V, hV⟩ : ∃ V, (w.alloc (.cells #[.int .i64 z, .slice A n c] 24)).alloc (.cells #[.int .i64 0, .slice none 0 0] 24) = V := ⟨_, rfl⟩
    rw [hV] at k1 k2 hb0 hx1 hvs
    have HV := Lib.hid hV
    have HVS := Lib.hid hvs
    have HX := Lib.hid hx1
    have K1 := Lib.hid k1
    have K2 := Lib.hid k2
    have BB := Lib.hid hb0
    have a0 := K1.out.c0
    have a1 := K1.out.c1
    have lg := K1.out.lt
    clear h k1 k2 hb0 hx1 hV hvs
    go_enter Try.func11, Try.ntmps11
    go_upto_region 1 with fail
    rw [HV.out]
    clear HV
    go_wp2_with fail
    refine (pgate_any z _ n c _ _ HX.out).mono ?_
    rintro e w1 (⟨hok1, g, A1, c1, b1, rfl, gs, b⟩ | ⟨hok1, rfl, b⟩)
    · exact absurd hok1 HNO.out
    · replace K2 := Lib.hid (K2.out.below b K2.out.lt)
      replace BB := Lib.hid (below3 BB.out b)
      clear b a0 a1 lg hok1 K1 HX
      have r0 := K2.out.c0
      have r1 := K2.out.c1
      have f0 := K2.out.frozen 0
      have f1 := K2.out.frozen 1
      have lr := K2.out.lt
      have HB := Lib.hid (below_set2 (g := w.heap.size + 1) BB.out (Nat.le_succ _) (.int .i64 0) (.slice none 0 0))
      go_wp2_with fail
      exact bodyPost_ret (v := .tuple #[.bool false, .agg #[.int .i64 0, .slice none 0 0], .int .i64 1]) (by simp [results, Try.results11, go_sem, *]) rfl ⟨none, 0, rfl, OwnI.nil_ _ _ _, HB.out⟩

set_option maxHeartbeats 8000000 in
theorem pgiveC_any (z : Int) (A : Option Addr) (n c : Nat) (l : List Int) (w : World) (h : SemW w z A n c l) : Calls Try.prog 13 #[.agg #[.int .i64 z, .slice A n c]] w (GiveA (giveR z l) w) := by
  by_cases hok : semOk z l
  · have HOK := Lib.hid hok
    have hn256 : n ≤ 256 := by rw [← h.x.1]; exact hok.2.2.1
    by_cases h0 : 0 < n
    · obtain ⟨x, hx⟩ : ∃ x, nth l 0 = x := ⟨_, rfl⟩
      obtain rfl : z = 0 := by have := hok.1; have := hok.2.2.2.1; have := h.x.1; omega
      rw [show giveR 0 l = (0, x, 0, wo l x) by unfold giveR; rw [if_neg (fun q => q hok), if_pos (by rw [h.x.1]; exact h0), hx]]
      have HXE := Lib.hid hx
      have HE := Lib.hid (show decide (n = 0) = false from decide_eq_false (by omega))
      clear hok hx
      obtain ⟨k1, k2, hb0⟩ := lies2 w #[.int .i64 0, .slice A n c] #[.int .i64 0, .slice none 0 0] 24 24
      have hx1 := h.below hb0
      have LX := Lib.hid h.x.1
      have hvs : ((w.alloc (.cells #[.int .i64 0, .slice A n c] 24)).alloc (.cells #[.int .i64 0, .slice none 0 0] 24)).heap.size = w.heap.size + 2 := by simp
      obtain ⟨V, hV⟩ : ∃ V, (w.alloc (.cells #[.int .i64 0, .slice A n c] 24)).alloc (.cells #[.int .i64 0, .slice none 0 0] 24) = V := ⟨_, rfl⟩
      rw [hV] at k1 k2 hb0 hx1 hvs
      have HV := Lib.hid hV
      have HVS := Lib.hid hvs
      have HX := Lib.hid hx1
      have K1 := Lib.hid k1
      have K2 := Lib.hid k2
      have BB := Lib.hid hb0
      have a0 := K1.out.c0
      have a1 := K1.out.c1
      have lg := K1.out.lt
      clear h k1 k2 hb0 hx1 hV hvs
      go_enter Try.func13, Try.ntmps13
      go_upto_region 1 with fail
      rw [HV.out]
      clear HV
      go_wp2_with fail
      refine (pgate_any 0 _ n c _ _ HX.out).mono ?_
      rintro e w1 (⟨hok1, g, A1, c1, b1, rfl, gs, b⟩ | ⟨hok1, rfl, b⟩)
      · have GG := Lib.hid gs
        have HGV : Hid (w.heap.size + 1 < g ∧ w.heap.size + 1 < V.heap.size ∧ w.heap.size ≤ V.heap.size) := Lib.hid (by have := gs.hb; have := HVS.out; omega)
        replace K2 := Lib.hid (K2.out.below b K2.out.lt)
        replace BB := Lib.hid (below3 BB.out b)
        clear gs b a0 a1 lg hok1 K1 HX
        go_wp2_with fail
        have q1 := GG.out.c1
        have lq := GG.out.lt
        refine (pempty_any g A1 n c1 _ q1 lq (by omega)).mono ?_
        rw [HE.out]
        rintro e w3 ⟨rfl, b⟩
        clear q1 lq
        replace GG := Lib.hid (GG.out.below b)
        replace K2 := Lib.hid (K2.out.below b K2.out.lt)
        replace BB := Lib.hid (below3 BB.out b)
        clear b
        go_wp2_with fail
        refine (pnext_any GG.out x h0 HXE.out).mono ?_
        rintro e w4 ⟨rfl, gs, b⟩
        replace GG := Lib.hid gs
        replace K2 := Lib.hid (K2.out.below b HGV.out.2.1)
        replace BB := Lib.hid (BB.out.trans (b.mono HGV.out.2.2))
        clear gs b
        go_wp2_with fail
        have q0 := GG.out.c0
        have q1 := GG.out.c1
        have lq := GG.out.lt
        refine (psem_any g 0 A1 (wo l x).length c1 _ q0 q1 lq).mono ?_
        rintro e w9 ⟨rfl, b⟩
        clear q0 q1 lq
        replace GG := Lib.hid (GG.out.below b)
        replace K2 := Lib.hid (K2.out.below b K2.out.lt)
        replace BB := Lib.hid (below3 BB.out b)
        clear b
        have r0 := K2.out.c0
        have r1 := K2.out.c1
        have f0 := K2.out.frozen 0
        have f1 := K2.out.frozen 1
        have lr := K2.out.lt
        have HB := Lib.hid (below_set2 (g := w.heap.size + 1) BB.out (Nat.le_succ _) (.int .i64 0) (.slice A1 (wo l x).length c1))
        have HN := Lib.hid ((OwnI.past2 (g := w.heap.size + 1) GG.out.o (by have := HGV.out.1; omega) (.int .i64 0) (.slice A1 (wo l x).length c1)).base (show w.heap.size ≤ g + 1 by have := HGV.out.1; omega))
        go_wp2_with fail
        exact bodyPost_ret (v := .tuple #[.int .i64 x, .agg #[.int .i64 0, .slice A1 (wo l x).length c1], .int .i64 0]) (by simp [results, Try.results13, go_sem, *]) rfl ⟨_, _, rfl, HN.out, HB.out⟩
      · exact absurd HOK.out hok1
    · have HN0 : Hid (n = 0) := Lib.hid (by omega)
      have HE := Lib.hid (show decide (n = 0) = true from decide_eq_true HN0.out)
      have HL0 : Hid (¬ 0 < l.length) := Lib.hid (by rw [h.x.1]; exact h0)
      by_cases h1 : z = 1000
      · obtain rfl := h1
        rw [show giveR 1000 l = (4, 0, 0, []) by unfold giveR; rw [if_neg (fun q => q hok), if_neg HL0.out, if_pos rfl]]
        clear hok h0
        obtain ⟨k1, k2, hb0⟩ := lies2 w #[.int .i64 1000, .slice A n c] #[.int .i64 0, .slice none 0 0] 24 24
        have hx1 := h.below hb0
        have LX := Lib.hid h.x.1
        have hvs : ((w.alloc (.cells #[.int .i64 1000, .slice A n c] 24)).alloc (.cells #[.int .i64 0, .slice none 0 0] 24)).heap.size = w.heap.size + 2 := by simp
        obtain ⟨V, hV⟩ : ∃ V, (w.alloc (.cells #[.int .i64 1000, .slice A n c] 24)).alloc (.cells #[.int .i64 0, .slice none 0 0] 24) = V := ⟨_, rfl⟩
        rw [hV] at k1 k2 hb0 hx1 hvs
        have HV := Lib.hid hV
        have HVS := Lib.hid hvs
        have HX := Lib.hid hx1
        have K1 := Lib.hid k1
        have K2 := Lib.hid k2
        have BB := Lib.hid hb0
        have a0 := K1.out.c0
        have a1 := K1.out.c1
        have lg := K1.out.lt
        clear h k1 k2 hb0 hx1 hV hvs
        go_enter Try.func13, Try.ntmps13
        go_upto_region 1 with fail
        rw [HV.out]
        clear HV
        go_wp2_with fail
        refine (pgate_any 1000 _ n c _ _ HX.out).mono ?_
        rintro e w1 (⟨hok1, g, A1, c1, b1, rfl, gs, b⟩ | ⟨hok1, rfl, b⟩)
        · have GG := Lib.hid gs
          have HGV : Hid (w.heap.size + 1 < g ∧ w.heap.size + 1 < V.heap.size ∧ w.heap.size ≤ V.heap.size) := Lib.hid (by have := gs.hb; have := HVS.out; omega)
          replace K2 := Lib.hid (K2.out.below b K2.out.lt)
          replace BB := Lib.hid (below3 BB.out b)
          clear gs b a0 a1 lg hok1 K1 HX
          go_wp2_with fail
          have q1 := GG.out.c1
          have lq := GG.out.lt
          refine (pempty_any g A1 n c1 _ q1 lq (by omega)).mono ?_
          rw [HE.out]
          rintro e w3 ⟨rfl, b⟩
          clear q1 lq
          replace GG := Lib.hid (GG.out.below b)
          replace K2 := Lib.hid (K2.out.below b K2.out.lt)
          replace BB := Lib.hid (below3 BB.out b)
          clear b
          go_wp2_with fail
          have q0 := GG.out.c0
          have lq := GG.out.lt
          refine (pgive_no g _ q0 lq).mono ?_
          rintro e w4 ⟨rfl, b⟩
          clear q0 lq
          replace GG := Lib.hid (GG.out.below b)
          replace K2 := Lib.hid (K2.out.below b K2.out.lt)
          replace BB := Lib.hid (below3 BB.out b)
          clear b
          have r0 := K2.out.c0
          have r1 := K2.out.c1
          have f0 := K2.out.frozen 0
          have f1 := K2.out.frozen 1
          have lr := K2.out.lt
          have HB := Lib.hid (below_set2 (g := w.heap.size + 1) BB.out (Nat.le_succ _) (.int .i64 0) (.slice none 0 0))
          go_wp2_with fail
          exact bodyPost_ret (v := .tuple #[.int .i64 0, .agg #[.int .i64 0, .slice none 0 0], .int .i64 4]) (by simp [results, Try.results13, go_sem, *]) rfl ⟨none, 0, rfl, OwnI.nil_ _ _ _, HB.out⟩
        · exact absurd HOK.out hok1
      · rw [show giveR z l = (0, -1, z + 1, []) by unfold giveR; rw [if_neg (fun q => q hok), if_neg HL0.out, if_neg h1]]
        have HZ := Lib.hid (And.intro h1 (And.intro hok.1 hok.2.1))
        have HLN : Hid (l = []) := Lib.hid (List.eq_nil_of_length_eq_zero (by rw [h.x.1]; exact HN0.out))
        clear hok h0 h1
        obtain ⟨k1, k2, hb0⟩ := lies2 w #[.int .i64 z, .slice A n c] #[.int .i64 0, .slice none 0 0] 24 24
        have hx1 := h.below hb0
        have LX := Lib.hid h.x.1
        have hvs : ((w.alloc (.cells #[.int .i64 z, .slice A n c] 24)).alloc (.cells #[.int .i64 0, .slice none 0 0] 24)).heap.size = w.heap.size + 2 := by simp
        obtain ⟨V, hV⟩ : ∃ V, (w.alloc (.cells #[.int .i64 z, .slice A n c] 24)).alloc (.cells #[.int .i64 0, .slice none 0 0] 24) = V := ⟨_, rfl⟩
        rw [hV] at k1 k2 hb0 hx1 hvs
        have HV := Lib.hid hV
        have HVS := Lib.hid hvs
        have HX := Lib.hid hx1
        have K1 := Lib.hid k1
        have K2 := Lib.hid k2
        have BB := Lib.hid hb0
        have a0 := K1.out.c0
        have a1 := K1.out.c1
        have lg := K1.out.lt
        clear h k1 k2 hb0 hx1 hV hvs
        go_enter Try.func13, Try.ntmps13
        go_upto_region 1 with fail
        rw [HV.out]
        clear HV
        go_wp2_with fail
        refine (pgate_any z _ n c _ _ HX.out).mono ?_
        rintro e w1 (⟨hok1, g, A1, c1, b1, rfl, gs, b⟩ | ⟨hok1, rfl, b⟩)
        · have GG := Lib.hid gs
          have HGV : Hid (w.heap.size + 1 < g ∧ w.heap.size + 1 < V.heap.size ∧ w.heap.size ≤ V.heap.size) := Lib.hid (by have := gs.hb; have := HVS.out; omega)
          replace K2 := Lib.hid (K2.out.below b K2.out.lt)
          replace BB := Lib.hid (below3 BB.out b)
          clear gs b a0 a1 lg hok1 K1 HX
          go_wp2_with fail
          have q1 := GG.out.c1
          have lq := GG.out.lt
          refine (pempty_any g A1 n c1 _ q1 lq (by omega)).mono ?_
          rw [HE.out]
          rintro e w3 ⟨rfl, b⟩
          clear q1 lq
          replace GG := Lib.hid (GG.out.below b)
          replace K2 := Lib.hid (K2.out.below b K2.out.lt)
          replace BB := Lib.hid (below3 BB.out b)
          clear b
          go_wp2_with fail
          refine (pgive_yes GG.out HZ.out.1 HZ.out.2).mono ?_
          rintro e w4 ⟨rfl, gs, b⟩
          replace GG := Lib.hid gs
          replace K2 := Lib.hid (K2.out.below b HGV.out.2.1)
          replace BB := Lib.hid (BB.out.trans (b.mono HGV.out.2.2))
          clear gs b
          go_wp2_with fail
          have q0 := GG.out.c0
          have q1 := GG.out.c1
          have lq := GG.out.lt
          refine (psem_any g (z + 1) A1 n c1 _ q0 q1 lq).mono ?_
          rintro e w9 ⟨rfl, b⟩
          clear q0 q1 lq
          replace GG := Lib.hid (GG.out.below b)
          replace K2 := Lib.hid (K2.out.below b K2.out.lt)
          replace BB := Lib.hid (below3 BB.out b)
          clear b
          have r0 := K2.out.c0
          have r1 := K2.out.c1
          have f0 := K2.out.frozen 0
          have f1 := K2.out.frozen 1
          have lr := K2.out.lt
          have HB := Lib.hid (below_set2 (g := w.heap.size + 1) BB.out (Nat.le_succ _) (.int .i64 (z + 1)) (.slice A1 n c1))
          have HN := Lib.hid ((OwnI.past2 (g := w.heap.size + 1) (HLN.out ▸ GG.out.o) (by have := HGV.out.1; omega) (.int .i64 (z + 1)) (.slice A1 n c1)).base (show w.heap.size ≤ g + 1 by have := HGV.out.1; omega))
          go_wp2_with fail
          exact bodyPost_ret (v := .tuple #[.int .i64 (-1), .agg #[.int .i64 (z + 1), .slice A1 n c1], .int .i64 0]) (by simp [results, Try.results13, go_sem, *]) rfl ⟨_, _, (by simp [HN0.out]), HN.out, HB.out⟩
        · exact absurd HOK.out hok1
  · rw [show giveR z l = (1, 0, 0, []) by unfold giveR; rw [if_pos hok]]
    have HNO := Lib.hid hok
    clear hok
    obtain ⟨k1, k2, hb0⟩ := lies2 w #[.int .i64 z, .slice A n c] #[.int .i64 0, .slice none 0 0] 24 24
    have hx1 := h.below hb0
    have LX := Lib.hid h.x.1
    have hvs : ((w.alloc (.cells #[.int .i64 z, .slice A n c] 24)).alloc (.cells #[.int .i64 0, .slice none 0 0] 24)).heap.size = w.heap.size + 2 := by simp
    obtain ⟨V, hV⟩ : ∃ V, (w.alloc (.cells #[.int .i64 z, .slice A n c] 24)).alloc (.cells #[.int .i64 0, .slice none 0 0] 24) = V := ⟨_, rfl⟩
    rw [hV] at k1 k2 hb0 hx1 hvs
    have HV := Lib.hid hV
    have HVS := Lib.hid hvs
    have HX := Lib.hid hx1
    have K1 := Lib.hid k1
    have K2 := Lib.hid k2
    have BB := Lib.hid hb0
    have a0 := K1.out.c0
    have a1 := K1.out.c1
    have lg := K1.out.lt
    clear h k1 k2 hb0 hx1 hV hvs
    go_enter Try.func13, Try.ntmps13
    go_upto_region 1 with fail
    rw [HV.out]
    clear HV
    go_wp2_with fail
    refine (pgate_any z _ n c _ _ HX.out).mono ?_
    rintro e w1 (⟨hok1, g, A1, c1, b1, rfl, gs, b⟩ | ⟨hok1, rfl, b⟩)
    · exact absurd hok1 HNO.out
    · replace K2 := Lib.hid (K2.out.below b K2.out.lt)
      replace BB := Lib.hid (below3 BB.out b)
      clear b a0 a1 lg hok1 K1 HX
      have r0 := K2.out.c0
      have r1 := K2.out.c1
      have f0 := K2.out.frozen 0
      have f1 := K2.out.frozen 1
      have lr := K2.out.lt
      have HB := Lib.hid (below_set2 (g := w.heap.size + 1) BB.out (Nat.le_succ _) (.int .i64 0) (.slice none 0 0))
      go_wp2_with fail
      exact bodyPost_ret (v := .tuple #[.int .i64 0, .agg #[.int .i64 0, .slice none 0 0], .int .i64 1]) (by simp [results, Try.results13, go_sem, *]) rfl ⟨none, 0, rfl, OwnI.nil_ _ _ _, HB.out⟩

set_option maxHeartbeats 8000000 in
theorem pdropC_any (z : Int) (A : Option Addr) (n c : Nat) (l : List Int) (id : Int) (w : World) (h : SemW w z A n c l) (fid : Fit id) : Calls Try.prog 15 #[.agg #[.int .i64 z, .slice A n c], .int .i64 id] w (SemA (dropR z l id) w) := by
  have FID := Lib.hid fid
  clear fid
  by_cases hok : semOk z l
  · have HOK := Lib.hid hok
    have hn256 : n ≤ 256 := by rw [← h.x.1]; exact hok.2.2.1
    by_cases hm : id ∈ l
    · rw [show dropR z l id = (0, z, wo l id) by unfold dropR; rw [if_neg (fun q => q hok), if_neg (fun q => q hm)]]
      have HM := Lib.hid (hasB_yes hm)
      have HMM := Lib.hid hm
      clear hok hm
      obtain ⟨k1, k2, hb0⟩ := lies2 w #[.int .i64 z, .slice A n c] #[.int .i64 0, .slice none 0 0] 24 24
      have hx1 := h.below hb0
      have LX := Lib.hid h.x.1
      have hvs : ((w.alloc (.cells #[.int .i64 z, .slice A n c] 24)).alloc (.cells #[.int .i64 0, .slice none 0 0] 24)).heap.size = w.heap.size + 2 := by simp
      obtain ⟨V, hV⟩ : ∃ V, (w.alloc (.cells #[.int .i64 z, .slice A n c] 24)).alloc (.cells #[.int .i64 0, .slice none 0 0] 24) = V := ⟨_, rfl⟩
      rw [hV] at k1 k2 hb0 hx1 hvs
      have HV := Lib.hid hV
      have HVS := Lib.hid hvs
      have HX := Lib.hid hx1
      have K1 := Lib.hid k1
      have K2 := Lib.hid k2
      have BB := Lib.hid hb0
      have a0 := K1.out.c0
      have a1 := K1.out.c1
      have lg := K1.out.lt
      clear h k1 k2 hb0 hx1 hV hvs
      go_enter Try.func15, Try.ntmps15
      go_upto_region 1 with fail
      rw [HV.out]
      clear HV
      go_wp2_with fail
      refine (pgate_any z _ n c _ _ HX.out).mono ?_
      rintro e w1 (⟨hok1, g, A1, c1, b1, rfl, gs, b⟩ | ⟨hok1, rfl, b⟩)
      · have GG := Lib.hid gs
        have HGV : Hid (w.heap.size + 1 < g ∧ w.heap.size + 1 < V.heap.size ∧ w.heap.size ≤ V.heap.size) := Lib.hid (by have := gs.hb; have := HVS.out; omega)
        replace K2 := Lib.hid (K2.out.below b K2.out.lt)
        replace BB := Lib.hid (below3 BB.out b)
        clear gs b a0 a1 lg hok1 K1 HX
        go_wp2_with fail
        have q2 := GG.out.c2
        have lq := GG.out.lt
        refine (phas_any g b1 n _ id _ q2 lq GG.out.s FID.out).mono ?_
        rw [HM.out]
        rintro e w2 ⟨rfl, b⟩
        clear q2 lq
        replace GG := Lib.hid (GG.out.below b)
        replace K2 := Lib.hid (K2.out.below b K2.out.lt)
        replace BB := Lib.hid (below3 BB.out b)
        clear b
        go_wp2_with fail
        refine (pleave_any GG.out id FID.out HMM.out).mono ?_
        rintro e w4 ⟨rfl, gs, b⟩
        replace GG := Lib.hid gs
        replace K2 := Lib.hid (K2.out.below b HGV.out.2.1)
        replace BB := Lib.hid (BB.out.trans (b.mono HGV.out.2.2))
        clear gs b
        go_wp2_with fail
        have q0 := GG.out.c0
        have q1 := GG.out.c1
        have lq := GG.out.lt
        refine (psem_any g z A1 (wo l id).length c1 _ q0 q1 lq).mono ?_
        rintro e w9 ⟨rfl, b⟩
        clear q0 q1 lq
        replace GG := Lib.hid (GG.out.below b)
        replace K2 := Lib.hid (K2.out.below b K2.out.lt)
        replace BB := Lib.hid (below3 BB.out b)
        clear b
        have r0 := K2.out.c0
        have r1 := K2.out.c1
        have f0 := K2.out.frozen 0
        have f1 := K2.out.frozen 1
        have lr := K2.out.lt
        have HB := Lib.hid (below_set2 (g := w.heap.size + 1) BB.out (Nat.le_succ _) (.int .i64 z) (.slice A1 (wo l id).length c1))
        have HN := Lib.hid ((OwnI.past2 (g := w.heap.size + 1) GG.out.o (by have := HGV.out.1; omega) (.int .i64 z) (.slice A1 (wo l id).length c1)).base (show w.heap.size ≤ g + 1 by have := HGV.out.1; omega))
        go_wp2_with fail
        exact bodyPost_ret (v := .tuple #[.agg #[.int .i64 z, .slice A1 (wo l id).length c1], .int .i64 0]) (by simp [results, Try.results15, go_sem, *]) rfl ⟨_, _, rfl, HN.out, HB.out⟩
      · exact absurd HOK.out hok1
    · rw [show dropR z l id = (5, 0, []) by unfold dropR; rw [if_neg (fun q => q hok), if_pos hm]]
      have HM := Lib.hid (hasB_no hm)
      clear hok hm
      obtain ⟨k1, k2, hb0⟩ := lies2 w #[.int .i64 z, .slice A n c] #[.int .i64 0, .slice none 0 0] 24 24
      have hx1 := h.below hb0
      have LX := Lib.hid h.x.1
      have hvs : ((w.alloc (.cells #[.int .i64 z, .slice A n c] 24)).alloc (.cells #[.int .i64 0, .slice none 0 0] 24)).heap.size = w.heap.size + 2 := by simp
      obtain ⟨V, hV⟩ : ∃ V, (w.alloc (.cells #[.int .i64 z, .slice A n c] 24)).alloc (.cells #[.int .i64 0, .slice none 0 0] 24) = V := ⟨_, rfl⟩
      rw [hV] at k1 k2 hb0 hx1 hvs
      have HV := Lib.hid hV
      have HVS := Lib.hid hvs
      have HX := Lib.hid hx1
      have K1 := Lib.hid k1
      have K2 := Lib.hid k2
      have BB := Lib.hid hb0
      have a0 := K1.out.c0
      have a1 := K1.out.c1
      have lg := K1.out.lt
      clear h k1 k2 hb0 hx1 hV hvs
      go_enter Try.func15, Try.ntmps15
      go_upto_region 1 with fail
      rw [HV.out]
      clear HV
      go_wp2_with fail
      refine (pgate_any z _ n c _ _ HX.out).mono ?_
      rintro e w1 (⟨hok1, g, A1, c1, b1, rfl, gs, b⟩ | ⟨hok1, rfl, b⟩)
      · have GG := Lib.hid gs
        have HGV : Hid (w.heap.size + 1 < g ∧ w.heap.size + 1 < V.heap.size ∧ w.heap.size ≤ V.heap.size) := Lib.hid (by have := gs.hb; have := HVS.out; omega)
        replace K2 := Lib.hid (K2.out.below b K2.out.lt)
        replace BB := Lib.hid (below3 BB.out b)
        clear gs b a0 a1 lg hok1 K1 HX
        go_wp2_with fail
        have q2 := GG.out.c2
        have lq := GG.out.lt
        refine (phas_any g b1 n _ id _ q2 lq GG.out.s FID.out).mono ?_
        rw [HM.out]
        rintro e w2 ⟨rfl, b⟩
        clear q2 lq
        replace GG := Lib.hid (GG.out.below b)
        replace K2 := Lib.hid (K2.out.below b K2.out.lt)
        replace BB := Lib.hid (below3 BB.out b)
        clear b
        have r0 := K2.out.c0
        have r1 := K2.out.c1
        have f0 := K2.out.frozen 0
        have f1 := K2.out.frozen 1
        have lr := K2.out.lt
        have HB := Lib.hid (below_set2 (g := w.heap.size + 1) BB.out (Nat.le_succ _) (.int .i64 0) (.slice none 0 0))
        go_wp2_with fail
        exact bodyPost_ret (v := .tuple #[.agg #[.int .i64 0, .slice none 0 0], .int .i64 5]) (by simp [results, Try.results15, go_sem, *]) rfl ⟨none, 0, rfl, OwnI.nil_ _ _ _, HB.out⟩
      · exact absurd HOK.out hok1
  · rw [show dropR z l id = (1, 0, []) by unfold dropR; rw [if_pos hok]]
    have HNO := Lib.hid hok
    clear hok
    obtain ⟨k1, k2, hb0⟩ := lies2 w #[.int .i64 z, .slice A n c] #[.int .i64 0, .slice none 0 0] 24 24
    have hx1 := h.below hb0
    have LX := Lib.hid h.x.1
    have hvs : ((w.alloc (.cells #[.int .i64 z, .slice A n c] 24)).alloc (.cells #[.int .i64 0, .slice none 0 0] 24)).heap.size = w.heap.size + 2 := by simp
    obtain ⟨V, hV⟩ : ∃ V, (w.alloc (.cells #[.int .i64 z, .slice A n c] 24)).alloc (.cells #[.int .i64 0, .slice none 0 0] 24) = V := ⟨_, rfl⟩
    rw [hV] at k1 k2 hb0 hx1 hvs
    have HV := Lib.hid hV
    have HVS := Lib.hid hvs
    have HX := Lib.hid hx1
    have K1 := Lib.hid k1
    have K2 := Lib.hid k2
    have BB := Lib.hid hb0
    have a0 := K1.out.c0
    have a1 := K1.out.c1
    have lg := K1.out.lt
    clear h k1 k2 hb0 hx1 hV hvs
    go_enter Try.func15, Try.ntmps15
    go_upto_region 1 with fail
    rw [HV.out]
    clear HV
    go_wp2_with fail
    refine (pgate_any z _ n c _ _ HX.out).mono ?_
    rintro e w1 (⟨hok1, g, A1, c1, b1, rfl, gs, b⟩ | ⟨hok1, rfl, b⟩)
    · exact absurd hok1 HNO.out
    · replace K2 := Lib.hid (K2.out.below b K2.out.lt)
      replace BB := Lib.hid (below3 BB.out b)
      clear b a0 a1 lg hok1 K1 HX
      have r0 := K2.out.c0
      have r1 := K2.out.c1
      have f0 := K2.out.frozen 0
      have f1 := K2.out.frozen 1
      have lr := K2.out.lt
      have HB := Lib.hid (below_set2 (g := w.heap.size + 1) BB.out (Nat.le_succ _) (.int .i64 0) (.slice none 0 0))
      go_wp2_with fail
      exact bodyPost_ret (v := .tuple #[.agg #[.int .i64 0, .slice none 0 0], .int .i64 1]) (by simp [results, Try.results15, go_sem, *]) rfl ⟨none, 0, rfl, OwnI.nil_ _ _ _, HB.out⟩


theorem semOk_new (z : Int) : semOk z [] ↔ 0 ≤ z ∧ z ≤ 1000 :=
  ⟨fun q => ⟨q.1, q.2.1⟩, fun q => ⟨q.1, q.2, by simp, .inr rfl, fun i hi => absurd hi (Nat.not_lt_zero _)⟩⟩

set_option maxHeartbeats 4000000 in
theorem pnewC_any (z : Int) (w : World) (fz : Fit z) : Calls Try.prog 9 #[.int .i64 z] w (SemA (newR z) w) := by
  obtain ⟨k1, k2, hb0⟩ := lies2 w #[.int .i64 0, .slice none 0 0] #[.int .i64 z, .slice none 0 0] 24 24
  have hx : SemW ((w.alloc (.cells #[.int .i64 0, .slice none 0 0] 24)).alloc (.cells #[.int .i64 z, .slice none 0 0] 24)) z none 0 0 [] := ⟨fz, Ints.nil_ _ _, by omega⟩
  obtain ⟨V, hV⟩ : ∃ V, (w.alloc (.cells #[.int .i64 0, .slice none 0 0] 24)).alloc (.cells #[.int .i64 z, .slice none 0 0] 24) = V := ⟨_, rfl⟩
  rw [hV] at k1 k2 hb0 hx
  have HV := Lib.hid hV
  have HX := Lib.hid hx
  have K2 := Lib.hid k1
  have K1 := Lib.hid k2
  have BB := Lib.hid hb0
  have a0 := K1.out.c0
  have a1 := K1.out.c1
  have lg := K1.out.lt
  clear k1 k2 hb0 hx hV fz
  by_cases hok : semOk z []
  · rw [show newR z = (0, z, []) by unfold newR; rw [if_pos ((semOk_new z).1 hok)]]
    have HOK := Lib.hid hok
    clear hok
    go_enter Try.func9, Try.ntmps9
    go_upto_region 2 with fail
    rw [HV.out]
    clear HV
    go_wp2_with fail
    refine (pcheck_any z _ 0 0 _ _ HX.out).mono ?_
    rw [if_pos HOK.out]
    rintro e w1 ⟨rfl, b⟩
    replace K1 := Lib.hid (K1.out.below b K1.out.lt)
    replace K2 := Lib.hid (K2.out.below b K2.out.lt)
    replace BB := Lib.hid (below3 BB.out b)
    clear b a0 a1 lg
    have a0 := K1.out.c0
    have a1 := K1.out.c1
    have lg := K1.out.lt
    have r0 := K2.out.c0
    have r1 := K2.out.c1
    have f0 := K2.out.frozen 0
    have f1 := K2.out.frozen 1
    have lr := K2.out.lt
    have HB := Lib.hid (below_set2 (g := w.heap.size) BB.out (Nat.le_refl _) (.int .i64 z) (.slice none 0 0))
    go_wp2_with fail
    exact bodyPost_ret (v := .tuple #[.agg #[.int .i64 z, .slice none 0 0], .int .i64 0]) (by simp [results, Try.results9, go_sem, *]) rfl ⟨none, 0, rfl, OwnI.nil_ _ _ _, HB.out⟩
  · rw [show newR z = (1, 0, []) by unfold newR; rw [if_neg (fun q => hok ((semOk_new z).2 q))]]
    have HOK := Lib.hid hok
    clear hok
    go_enter Try.func9, Try.ntmps9
    go_upto_region 2 with fail
    rw [HV.out]
    clear HV
    go_wp2_with fail
    refine (pcheck_any z _ 0 0 _ _ HX.out).mono ?_
    rw [if_neg HOK.out]
    rintro e w1 ⟨rfl, b⟩
    replace K1 := Lib.hid (K1.out.below b K1.out.lt)
    replace K2 := Lib.hid (K2.out.below b K2.out.lt)
    replace BB := Lib.hid (below3 BB.out b)
    clear b a0 a1 lg
    have a0 := K1.out.c0
    have a1 := K1.out.c1
    have lg := K1.out.lt
    have r0 := K2.out.c0
    have r1 := K2.out.c1
    have f0 := K2.out.frozen 0
    have f1 := K2.out.frozen 1
    have lr := K2.out.lt
    have HB := Lib.hid (below_set2 (g := w.heap.size) BB.out (Nat.le_refl _) (.int .i64 0) (.slice none 0 0))
    go_wp2_with fail
    exact bodyPost_ret (v := .tuple #[.agg #[.int .i64 0, .slice none 0 0], .int .i64 1]) (by simp [results, Try.results9, go_sem, *]) rfl ⟨none, 0, rfl, OwnI.nil_ _ _ _, HB.out⟩

end Go.Proofs.Ytokmogfnliccjaa

/-
  Layer 15: Cost and Gap, both sides.
-/
import Derived.Test.YtnmllekbajeenaaFra
import Derived.Test.YtnmllekbajeenaaFop
namespace Go.Proofs.Ytnmllekbajeenaa
open Go.RowKit

theorem tz_fit {z : Int} (h : Fit z) : tz z = z := if_pos h
theorem te_fit {z : Int} (h : Fit z) : te z = 0 := if_pos h
theorem tz_not {z : Int} (h : ¬ Fit z) : tz z = 0 := if_neg h
theorem te_not {z : Int} (h : ¬ Fit z) : te z = 4 := if_neg h

set_option maxHeartbeats 4000000 in
theorem cost_fr (wt u : Int) (w : World) (hu : Fit u) :
    Calls Try.prog 19 #[.int .i64 wt, .int .i64 u] w (RetB (.tuple #[.int .i64 (costFr wt u).1, .int .i64 (costFr wt u).2]) w) := by
  have HU := Lib.hid hu
  clear hu
  by_cases g0 : wt < 1
  · rw [show costFr wt u = (0, 1) from costFr_1 (by omega)]
    replace g0 : decide (wt < 1) = true := decide_eq_true g0
    go_enter Try.func19, Try.ntmps19
    go_wp2
    exact bodyPost_ret (results_tmp2 rfl _ _ _) rfl (by exact ⟨rfl, Below.refl _ _⟩)
  · by_cases g1 : 16 < wt
    · rw [show costFr wt u = (0, 1) from costFr_1 (by omega)]
      replace g0 : decide (wt < 1) = false := decide_eq_false g0
      replace g1 : decide (16 < wt) = true := decide_eq_true g1
      go_enter Try.func19, Try.ntmps19
      go_wp2
      exact bodyPost_ret (results_tmp2 rfl _ _ _) rfl (by exact ⟨rfl, Below.refl _ _⟩)
    · by_cases g2 : u < 0
      · rw [show costFr wt u = (0, 1) from costFr_1 (by omega)]
        replace g0 : decide (wt < 1) = false := decide_eq_false g0
        replace g1 : decide (16 < wt) = false := decide_eq_false g1
        replace g2 : decide (u < 0) = true := decide_eq_true g2
        go_enter Try.func19, Try.ntmps19
        go_wp2
        exact bodyPost_ret (results_tmp2 rfl _ _ _) rfl (by exact ⟨rfl, Below.refl _ _⟩)
      · have h3 : 1 ≤ wt ∧ wt ≤ 16 ∧ 0 ≤ u := by omega
        have hw1 := one_room (w := wt) ⟨h3.1, h3.2.1⟩
        have hdv := one_tdiv wt
        have hne : (wt == 0) = false := by simp; omega
        have hne2 : ¬ wt = 0 := by omega
        obtain ⟨o, ho⟩ : ∃ o, oneFr wt = o := ⟨_, rfl⟩
        rw [ho] at hw1 hdv
        have hwo : IntKind.i64.wrap o = o := by rw [IntKind.wrap_i64]; omega
        have HFO : Hid (Fit o) := Lib.hid (by unfold Fit; omega)
        have hop : 0 < o := by omega
        obtain ⟨x, hxx⟩ : ∃ x, u * o = x := ⟨_, rfl⟩
        have hx0 : 0 ≤ x := by rw [← hxx]; exact cost_nonneg hop h3.2.2
        have HXX := Lib.hid hxx
        have HO := Lib.hid ho
        by_cases hc : x ≤ 1152921504606846976
        · have HR : Hid (costFr wt u = (x, 0)) := Lib.hid (by rw [costFr_0 h3 (by rw [HO.out, HXX.out]; exact hc), HO.out, HXX.out])
          have hfx : Fit x := by unfold Fit; omega
          have HTZ := Lib.hid (tz_fit hfx)
          have HTE := Lib.hid (te_fit hfx)
          have t5 : decide (1152921504606846976 < x) = false := decide_eq_false (by omega)
          clear hfx
          rw [HR.out]
          replace g0 : decide (wt < 1) = false := decide_eq_false g0
          replace g1 : decide (16 < wt) = false := decide_eq_false g1
          replace g2 : decide (u < 0) = false := decide_eq_false g2
          clear hc h3 hop hxx ho hx0 HR HO
          go_enter Try.func19, Try.ntmps19
          go_wp2_with fail
          refine (mul_any u o _ HU.out HFO.out).mono ?_
          rw [HXX.out, HTZ.out, HTE.out]
          rintro e w1 ⟨rfl, b1⟩
          have B1 := Lib.hid b1
          clear b1
          go_wp2
          exact bodyPost_ret (results_tmp2 rfl _ _ _) rfl (by exact ⟨rfl, B1.out⟩)
        · by_cases hfx : Fit x
          · have HR : Hid (costFr wt u = (0, 4)) := Lib.hid (costFr_4 h3 (by rw [HO.out, HXX.out]; exact hc))
            have HTZ := Lib.hid (tz_fit hfx)
            have HTE := Lib.hid (te_fit hfx)
            have t5 : decide (1152921504606846976 < x) = true := decide_eq_true (by omega)
            clear hfx
            rw [HR.out]
            replace g0 : decide (wt < 1) = false := decide_eq_false g0
            replace g1 : decide (16 < wt) = false := decide_eq_false g1
            replace g2 : decide (u < 0) = false := decide_eq_false g2
            clear hc h3 hop hxx ho hx0 HR HO
            go_enter Try.func19, Try.ntmps19
            go_wp2_with fail
            refine (mul_any u o _ HU.out HFO.out).mono ?_
            rw [HXX.out, HTZ.out, HTE.out]
            rintro e w1 ⟨rfl, b1⟩
            have B1 := Lib.hid b1
            clear b1
            go_wp2
            exact bodyPost_ret (results_tmp2 rfl _ _ _) rfl (by exact ⟨rfl, B1.out⟩)
          · have HR : Hid (costFr wt u = (0, 4)) := Lib.hid (costFr_4 h3 (by rw [HO.out, HXX.out]; exact hc))
            have HTZ := Lib.hid (tz_not hfx)
            have HTE := Lib.hid (te_not hfx)
            clear hfx
            rw [HR.out]
            replace g0 : decide (wt < 1) = false := decide_eq_false g0
            replace g1 : decide (16 < wt) = false := decide_eq_false g1
            replace g2 : decide (u < 0) = false := decide_eq_false g2
            clear hc h3 hop hxx ho hx0 HR HO
            go_enter Try.func19, Try.ntmps19
            go_wp2_with fail
            refine (mul_any u o _ HU.out HFO.out).mono ?_
            rw [HXX.out, HTZ.out, HTE.out]
            rintro e w1 ⟨rfl, b1⟩
            have B1 := Lib.hid b1
            clear b1
            go_wp2
            exact bodyPost_ret (results_tmp2 rfl _ _ _) rfl (by exact ⟨rfl, B1.out⟩)

set_option maxHeartbeats 4000000 in
theorem rcost_fr (wt u : Int) (w : World) (hu : Fit u) :
    Calls Try.prog 20 #[.int .i64 wt, .int .i64 u] w (RetB (.tuple #[.int .i64 (costFr wt u).1, .int .i64 (costFr wt u).2]) w) := by
  have HU := Lib.hid hu
  clear hu
  by_cases g0 : wt < 1
  · rw [show costFr wt u = (0, 1) from costFr_1 (by omega)]
    replace g0 : decide (wt < 1) = true := decide_eq_true g0
    go_enter Try.func20, Try.ntmps20
    go_wp2
    exact bodyPost_ret (results_tmp2 rfl _ _ _) rfl (by exact ⟨rfl, Below.refl _ _⟩)
  · by_cases g1 : 16 < wt
    · rw [show costFr wt u = (0, 1) from costFr_1 (by omega)]
      replace g0 : decide (wt < 1) = false := decide_eq_false g0
      replace g1 : decide (16 < wt) = true := decide_eq_true g1
      go_enter Try.func20, Try.ntmps20
      go_wp2
      exact bodyPost_ret (results_tmp2 rfl _ _ _) rfl (by exact ⟨rfl, Below.refl _ _⟩)
    · by_cases g2 : u < 0
      · rw [show costFr wt u = (0, 1) from costFr_1 (by omega)]
        replace g0 : decide (wt < 1) = false := decide_eq_false g0
        replace g1 : decide (16 < wt) = false := decide_eq_false g1
        replace g2 : decide (u < 0) = true := decide_eq_true g2
        go_enter Try.func20, Try.ntmps20
        go_wp2
        exact bodyPost_ret (results_tmp2 rfl _ _ _) rfl (by exact ⟨rfl, Below.refl _ _⟩)
      · have h3 : 1 ≤ wt ∧ wt ≤ 16 ∧ 0 ≤ u := by omega
        have hw1 := one_room (w := wt) ⟨h3.1, h3.2.1⟩
        have hdv := one_tdiv wt
        have hne : (wt == 0) = false := by simp; omega
        have hne2 : ¬ wt = 0 := by omega
        obtain ⟨o, ho⟩ : ∃ o, oneFr wt = o := ⟨_, rfl⟩
        rw [ho] at hw1 hdv
        have hwo : IntKind.i64.wrap o = o := by rw [IntKind.wrap_i64]; omega
        have HFO : Hid (Fit o) := Lib.hid (by unfold Fit; omega)
        have hop : 0 < o := by omega
        obtain ⟨x, hxx⟩ : ∃ x, u * o = x := ⟨_, rfl⟩
        have hx0 : 0 ≤ x := by rw [← hxx]; exact cost_nonneg hop h3.2.2
        have HXX := Lib.hid hxx
        have HO := Lib.hid ho
        have hrm := cost_room (u := u) hop
        rw [HXX.out] at hrm
        have hd2 : Int.tdiv 1152921504606846976 o = 1152921504606846976 / o := Int.tdiv_eq_ediv_of_nonneg (by decide)
        have hq1 : 0 ≤ 1152921504606846976 / o := Int.ediv_nonneg (by decide) (by omega)
        have hq2 : 1152921504606846976 / o ≤ 1152921504606846976 := Int.ediv_le_self _ (by decide)
        generalize 1152921504606846976 / o = q at hrm hd2 hq1 hq2
        have hwq : IntKind.i64.wrap q = q := by rw [IntKind.wrap_i64]; omega
        have hno : (o == 0) = false := by simp; omega
        have hno2 : ¬ o = 0 := by omega
        by_cases hc : x ≤ 1152921504606846976
        · have HR : Hid (costFr wt u = (x, 0)) := Lib.hid (by rw [costFr_0 h3 (by rw [HO.out, HXX.out]; exact hc), HO.out, HXX.out])
          rw [HR.out]
          replace g0 : decide (wt < 1) = false := decide_eq_false g0
          replace g1 : decide (16 < wt) = false := decide_eq_false g1
          replace g2 : decide (u < 0) = false := decide_eq_false g2
          have t5 : decide (q < u) = false := decide_eq_false (by omega)
          have hwx : IntKind.i64.wrap x = x := by rw [IntKind.wrap_i64]; omega
          clear hc h3 hop ho hx0 HR HO hrm hq1 hq2
          go_enter Try.func20, Try.ntmps20
          go_wp2
          exact bodyPost_ret (results_tmp2 rfl _ _ _) rfl (by exact ⟨rfl, Below.refl _ _⟩)
        · have HR : Hid (costFr wt u = (0, 4)) := Lib.hid (costFr_4 h3 (by rw [HO.out, HXX.out]; exact hc))
          rw [HR.out]
          replace g0 : decide (wt < 1) = false := decide_eq_false g0
          replace g1 : decide (16 < wt) = false := decide_eq_false g1
          replace g2 : decide (u < 0) = false := decide_eq_false g2
          have t5 : decide (q < u) = true := decide_eq_true (by omega)
          clear hc h3 hop ho hx0 HR HO hrm hq1 hq2 hxx
          go_enter Try.func20, Try.ntmps20
          go_wp2
          exact bodyPost_ret (results_tmp2 rfl _ _ _) rfl (by exact ⟨rfl, Below.refl _ _⟩)

theorem gap_no {l : List Tn} {i k : Int} (h : (gapFr l i k).2 ≠ 0) : gapFr l i k = (0, (gapFr l i k).2) := by
  unfold gapFr at h ⊢
  split
  · rename_i q
    split
    · rename_i r; rw [if_pos q, if_pos r] at h; exact absurd rfl h
    · rfl
  · rfl
theorem gap_yes {l : List Tn} {i k : Int} (h : (gapFr l i k).2 = 0) : okLn l ∧ (∃ m : Nat, i = m ∧ m < l.length) ∧ ∃ m : Nat, k = m ∧ m < l.length := by
  unfold gapFr at h
  split at h
  · rename_i q
    split at h
    · rename_i r; exact ⟨q, ⟨i.toNat, by omega, by omega⟩, k.toNat, by omega, by omega⟩
    · cases h
  · cases h

set_option maxHeartbeats 4000000 in
theorem gap_fr (A : Option Addr) (n c : Nat) (l : List Tn) (i k : Int) (w : World) (hx : Tns w A n c l) (hi : Fit i) (hk : Fit k) :
    Calls Try.prog 17 #[.slice A n c, .int .i64 i, .int .i64 k] w (RetB (.tuple #[.int .i64 (gapFr l i k).1, .int .i64 (gapFr l i k).2]) w) := by
  have HX := Lib.hid hx
  have LX := Lib.hid hx.1
  have hnc := hx.2.1
  clear hx
  have HI := Lib.hid hi
  have HK := Lib.hid hk
  clear hi hk
  have HTT := Lib.hid (there_two l i k)
  obtain ⟨⟨z, er⟩, hg⟩ : ∃ q, gapFr l i k = q := ⟨_, rfl⟩
  have hg2 : (gapFr l i k).2 = er := by rw [hg]
  rw [hg2] at HTT
  have KB := lay1 w #[.int .i64 i, .int .i64 k] 3
  have HJ := Lib.hid (ints2_fr KB.1 HI.out HK.out)
  have HX1 := Lib.hid (HX.out.below KB.2)
  have B0 := Lib.hid KB.2
  clear KB
  by_cases he : er = 0
  · subst he
    obtain ⟨hok, ⟨m, rfl, hm⟩, j, rfl, hj⟩ := gap_yes hg2
    have hmn : m < n := by rw [← LX.out]; exact hm
    have hjn : j < n := by rw [← LX.out]; exact hj
    have hzz := gapFr_0 hok hm hj
    rw [hg] at hzz
    have hz0 : (tth l m).tg - (tth l j).tg = z := (congrArg Prod.fst hzz).symm
    have o1 := (hok.2 m hm).2.2.2.1
    have o2 := (hok.2 j hj).2.2.2.1
    rw [hg]
    clear hg hg2 hzz hok hm hj
    go_enter Try.func17, Try.ntmps17
    go_wp2_with fail
    refine (there_fr A _ n c 2 2 l _ _ HX1.out HJ.out).mono ?_
    rw [HTT.out]
    rintro e U1 ⟨rfl, b1⟩
    have HX2 := Lib.hid (HX1.out.below b1)
    have BB := Lib.hid (below3 B0.out b1)
    clear b1 B0 HX1 HJ HX
    obtain ⟨b, o, rfl, hb, -, -, -, c3, -⟩ := HX2.out.at_ hmn
    obtain ⟨b2, o2, e2, -, -, -, -, d3, -⟩ := HX2.out.at_ hjn
    injection e2 with e2
    injection e2 with e3 e4
    subst e3 e4
    generalize (tth l m).tg = x at c3 hz0 o1
    generalize (tth l j).tg = y at d3 hz0 o2
    subst hz0
    have hfx : Fit (x - y) := by unfold Fit; omega
    have HTZ := Lib.hid (tz_fit hfx)
    have HTE := Lib.hid (te_fit hfx)
    have HFX : Hid (Fit x) := Lib.hid (by unfold Fit; omega)
    have HFY : Hid (Fit y) := Lib.hid (by unfold Fit; omega)
    clear hfx o1 o2
    go_upto_region 4 with fail
    refine calm_region (S := fun U => Below U1.heap.size U1 U) (by kernel_rfl) (Below.refl _ _).drew ?_
    refine calm_to (i := 0) (t := 17) (v := .slice (some ⟨b, o, none⟩) n c) rfl rfl (by kernel_rfl) (by kernel_rfl) (by kernel_rfl) (fun _ _ _ h => h) (calm_move (by kernel_rfl) (.tmp 0) (.inl rfl) rfl) ?_
    simp only [List.setIfInBounds_toArray, List.set_cons_zero, List.set_cons_succ]
    refine calm_to (i := 1) (t := 18) (v := .int .i64 (m : Int)) rfl rfl (by kernel_rfl) (by kernel_rfl) (by kernel_rfl) (fun _ _ _ h => h) (calm_move (by kernel_rfl) (.tmp 1) (.inl rfl) rfl) ?_
    simp only [List.setIfInBounds_toArray, List.set_cons_zero, List.set_cons_succ]
    refine calm_to (i := 2) (t := 19) (v := .pointer (some ⟨b, o + m * 5, none⟩)) rfl rfl (by kernel_rfl) (by kernel_rfl) (by kernel_rfl) (fun _ _ _ h => h) (calm_of (by kernel_rfl) (fun U hU => by go_simp)) ?_
    simp only [List.setIfInBounds_toArray, List.set_cons_zero, List.set_cons_succ]
    refine calm_to (i := 3) (t := 20) (v := .pointer (some ⟨b, o + m * 5 + 3, none⟩)) rfl rfl (by kernel_rfl) (by kernel_rfl) (by kernel_rfl) (fun _ _ _ h => h) (calm_of (by kernel_rfl) (fun U hU => by go_simp)) ?_
    simp only [List.setIfInBounds_toArray, List.set_cons_zero, List.set_cons_succ]
    refine calm_to (i := 4) (t := 21) (v := .int .i64 x) rfl rfl (by kernel_rfl) (by kernel_rfl) (by kernel_rfl) (fun _ _ _ h => h) (calm_of (by kernel_rfl) (fun U hU => by have q1 := (hU.cell (p := ⟨b, o + m * 5 + 3, none⟩) hb).trans c3; have ql := Nat.lt_of_lt_of_le hb hU.size; go_simp)) ?_
    simp only [List.setIfInBounds_toArray, List.set_cons_zero, List.set_cons_succ]
    refine calm_to (i := 5) (t := 22) (v := .slice (some ⟨b, o, none⟩) n c) rfl rfl (by kernel_rfl) (by kernel_rfl) (by kernel_rfl) (fun _ _ _ h => h) (calm_move (by kernel_rfl) (.tmp 0) (.inl rfl) rfl) ?_
    simp only [List.setIfInBounds_toArray, List.set_cons_zero, List.set_cons_succ]
    refine calm_to (i := 6) (t := 23) (v := .int .i64 (j : Int)) rfl rfl (by kernel_rfl) (by kernel_rfl) (by kernel_rfl) (fun _ _ _ h => h) (calm_move (by kernel_rfl) (.tmp 2) (.inl rfl) rfl) ?_
    simp only [List.setIfInBounds_toArray, List.set_cons_zero, List.set_cons_succ]
    refine calm_to (i := 7) (t := 24) (v := .pointer (some ⟨b, o + j * 5, none⟩)) rfl rfl (by kernel_rfl) (by kernel_rfl) (by kernel_rfl) (fun _ _ _ h => h) (calm_of (by kernel_rfl) (fun U hU => by go_simp)) ?_
    simp only [List.setIfInBounds_toArray, List.set_cons_zero, List.set_cons_succ]
    refine calm_to (i := 8) (t := 25) (v := .pointer (some ⟨b, o + j * 5 + 3, none⟩)) rfl rfl (by kernel_rfl) (by kernel_rfl) (by kernel_rfl) (fun _ _ _ h => h) (calm_of (by kernel_rfl) (fun U hU => by go_simp)) ?_
    simp only [List.setIfInBounds_toArray, List.set_cons_zero, List.set_cons_succ]
    refine calm_to (i := 9) (t := 26) (v := .int .i64 y) rfl rfl (by kernel_rfl) (by kernel_rfl) (by kernel_rfl) (fun _ _ _ h => h) (calm_of (by kernel_rfl) (fun U hU => by have q1 := (hU.cell (p := ⟨b, o + j * 5 + 3, none⟩) hb).trans d3; have ql := Nat.lt_of_lt_of_le hb hU.size; go_simp)) ?_
    simp only [List.setIfInBounds_toArray, List.set_cons_zero, List.set_cons_succ]
    refine calm_to (i := 10) (t := 27) (v := .tuple #[.int .i64 (x - y), .int .i64 0]) rfl rfl (by kernel_rfl) (by kernel_rfl) (by kernel_rfl) (fun _ _ _ h => h) (calm_call2 (by kernel_rfl) 28 (.tmp 21) (.tmp 26) #[2, 2] rfl (enters_of Try.func28 (by kernel_rfl) rfl) (.int .i64 x) (.int .i64 y) rfl rfl (fun U hU => (sub_any x y U HFX.out HFY.out).mono fun _ _ q => ⟨by rw [q.1, HTZ.out, HTE.out], below3 hU q.2⟩)) ?_
    simp only [List.setIfInBounds_toArray, List.set_cons_zero, List.set_cons_succ]
    refine calm_to (i := 11) (t := 28) (v := .int .i64 (x - y)) rfl rfl (by kernel_rfl) (by kernel_rfl) (by kernel_rfl) (fun _ _ _ h => h) (calm_of (by kernel_rfl) (fun U hU => by go_simp)) ?_
    simp only [List.setIfInBounds_toArray, List.set_cons_zero, List.set_cons_succ]
    refine calm_to (i := 12) (t := 29) (v := .int .i64 0) rfl rfl (by kernel_rfl) (by kernel_rfl) (by kernel_rfl) (fun _ _ _ h => h) (calm_of (by kernel_rfl) (fun U hU => by go_simp)) ?_
    simp only [List.setIfInBounds_toArray, List.set_cons_zero, List.set_cons_succ]
    refine calm_to (i := 13) (t := 6) (v := .int .i64 (x - y)) rfl rfl (by kernel_rfl) (by kernel_rfl) (by kernel_rfl) (fun _ _ _ h => h) (calm_move (by kernel_rfl) (.tmp 28) (.inr rfl) rfl) ?_
    simp only [List.setIfInBounds_toArray, List.set_cons_zero, List.set_cons_succ]
    refine calm_to (i := 14) (t := 7) (v := .int .i64 0) rfl rfl (by kernel_rfl) (by kernel_rfl) (by kernel_rfl) (fun _ _ _ h => h) (calm_move (by kernel_rfl) (.tmp 29) (.inr rfl) rfl) ?_
    simp only [List.setIfInBounds_toArray, List.set_cons_zero, List.set_cons_succ]
    refine calm_done (by kernel_rfl) (fun U hU => ?_) _
    have BU := Lib.hid (show Below U1.heap.size U1 U from hU)
    clear hU
    go_wp2
    exact bodyPost_ret (results_tmp2 rfl _ _ _) rfl (by exact ⟨rfl, below3 BB.out BU.out⟩)
  · have HR := Lib.hid (gap_no (l := l) (i := i) (k := k) (by rw [hg2]; exact he))
    rw [hg2] at HR
    rw [HR.out]
    have t0 : (er != 0) = true := by simpa using he
    clear he hg hg2
    go_enter Try.func17, Try.ntmps17
    go_wp2_with fail
    refine (there_fr A _ n c 2 2 l _ _ HX1.out HJ.out).mono ?_
    rw [HTT.out]
    rintro e U1 ⟨rfl, b1⟩
    have HX2 := Lib.hid (HX1.out.below b1)
    have BB := Lib.hid (below3 B0.out b1)
    clear b1 B0 HX1 HJ HX
    go_wp2
    exact bodyPost_ret (results_tmp2 rfl _ _ _) rfl (by exact ⟨rfl, BB.out⟩)

set_option maxHeartbeats 4000000 in
theorem rgap_fr (A : Option Addr) (n c : Nat) (l : List Tn) (i k : Int) (w : World) (hx : Tns w A n c l) :
    Calls Try.prog 18 #[.slice A n c, .int .i64 i, .int .i64 k] w (RetB (.tuple #[.int .i64 (gapFr l i k).1, .int .i64 (gapFr l i k).2]) w) := by
  have HX := Lib.hid hx
  have LX := Lib.hid hx.1
  have hnc := hx.2.1
  clear hx
  by_cases hok : okLn l
  · have HC := Lib.hid (chkLn_yes hok)
    by_cases g0 : i < 0
    · rw [show gapFr l i k = (0, 5) from gapFr_5 hok (by rw [LX.out]; omega)]
      replace g0 : decide (i < 0) = true := decide_eq_true g0
      clear hok
      go_enter Try.func18, Try.ntmps18
      go_wp2_with fail
      refine (rchk_tn A n c l _ HX.out).mono ?_
      rw [HC.out]
      rintro e w1 ⟨rfl, b1⟩
      have B1 := Lib.hid b1
      clear b1
      go_wp2
      exact bodyPost_ret (results_tmp2 rfl _ _ _) rfl (by exact ⟨rfl, B1.out⟩)
    · by_cases g1 : (n : Int) ≤ i
      · rw [show gapFr l i k = (0, 5) from gapFr_5 hok (by rw [LX.out]; omega)]
        replace g0 : decide (i < 0) = false := decide_eq_false g0
        replace g1 : decide ((n : Int) ≤ i) = true := decide_eq_true g1
        clear hok
        go_enter Try.func18, Try.ntmps18
        go_wp2_with fail
        refine (rchk_tn A n c l _ HX.out).mono ?_
        rw [HC.out]
        rintro e w1 ⟨rfl, b1⟩
        have B1 := Lib.hid b1
        clear b1
        go_wp2
        exact bodyPost_ret (results_tmp2 rfl _ _ _) rfl (by exact ⟨rfl, B1.out⟩)
      · by_cases g2 : k < 0
        · rw [show gapFr l i k = (0, 5) from gapFr_5 hok (by rw [LX.out]; omega)]
          replace g0 : decide (i < 0) = false := decide_eq_false g0
          replace g1 : decide ((n : Int) ≤ i) = false := decide_eq_false g1
          replace g2 : decide (k < 0) = true := decide_eq_true g2
          clear hok
          go_enter Try.func18, Try.ntmps18
          go_wp2_with fail
          refine (rchk_tn A n c l _ HX.out).mono ?_
          rw [HC.out]
          rintro e w1 ⟨rfl, b1⟩
          have B1 := Lib.hid b1
          clear b1
          go_wp2
          exact bodyPost_ret (results_tmp2 rfl _ _ _) rfl (by exact ⟨rfl, B1.out⟩)
        · by_cases g3 : (n : Int) ≤ k
          · rw [show gapFr l i k = (0, 5) from gapFr_5 hok (by rw [LX.out]; omega)]
            replace g0 : decide (i < 0) = false := decide_eq_false g0
            replace g1 : decide ((n : Int) ≤ i) = false := decide_eq_false g1
            replace g2 : decide (k < 0) = false := decide_eq_false g2
            replace g3 : decide ((n : Int) ≤ k) = true := decide_eq_true g3
            clear hok
            go_enter Try.func18, Try.ntmps18
            go_wp2_with fail
            refine (rchk_tn A n c l _ HX.out).mono ?_
            rw [HC.out]
            rintro e w1 ⟨rfl, b1⟩
            have B1 := Lib.hid b1
            clear b1
            go_wp2
            exact bodyPost_ret (results_tmp2 rfl _ _ _) rfl (by exact ⟨rfl, B1.out⟩)
          · obtain ⟨m, rfl⟩ : ∃ m : Nat, i = (m : Int) := ⟨i.toNat, by omega⟩
            obtain ⟨j, rfl⟩ : ∃ j : Nat, k = (j : Int) := ⟨k.toNat, by omega⟩
            have hmn : m < n := by omega
            have hjn : j < n := by omega
            have hm : m < l.length := by rw [LX.out]; exact hmn
            have hj : j < l.length := by rw [LX.out]; exact hjn
            rw [show gapFr l m j = _ from gapFr_0 hok hm hj]
            have o1 := (hok.2 m hm).2.2.2.1
            have o2 := (hok.2 j hj).2.2.2.1
            obtain ⟨x, hx0⟩ : ∃ x, (tth l m).tg = x := ⟨_, rfl⟩
            obtain ⟨y, hy0⟩ : ∃ y, (tth l j).tg = y := ⟨_, rfl⟩
            rw [hx0] at o1 ⊢
            rw [hy0] at o2 ⊢
            have HX0 := Lib.hid hx0
            have HY0 := Lib.hid hy0
            have hw : IntKind.i64.wrap (x - y) = x - y := by rw [IntKind.wrap_i64]; omega
            clear hx0 hy0 o1 o2
            replace g0 : decide ((m : Int) < 0) = false := decide_eq_false g0
            replace g1 : decide ((n : Int) ≤ (m : Int)) = false := decide_eq_false g1
            replace g2 : decide ((j : Int) < 0) = false := decide_eq_false g2
            replace g3 : decide ((n : Int) ≤ (j : Int)) = false := decide_eq_false g3
            clear hok hm hj
            go_enter Try.func18, Try.ntmps18
            go_wp2_with fail
            refine (rchk_tn A n c l _ HX.out).mono ?_
            rw [HC.out]
            rintro e w1 ⟨rfl, b1⟩
            have B1 := Lib.hid b1
            clear b1
            obtain ⟨b, o, rfl, hb, -, -, -, c3, -⟩ := (HX.out.below B1.out).at_ hmn
            obtain ⟨b2, o2, e2, -, -, -, -, d3, -⟩ := (HX.out.below B1.out).at_ hjn
            injection e2 with e2
            injection e2 with e3 e4
            subst e3 e4
            rw [HX0.out] at c3
            rw [HY0.out] at d3
            go_upto_region 5 with fail
            go_region
            go_wp2
            exact bodyPost_ret (results_tmp2 rfl _ _ _) rfl (by exact ⟨rfl, B1.out.drew⟩)
  · have HC := Lib.hid (chkLn_no hok)
    rw [show gapFr l i k = (0, 1) from gapFr_1 hok]
    clear hok
    go_enter Try.func18, Try.ntmps18
    go_wp2_with fail
    refine (rchk_tn A n c l _ HX.out).mono ?_
    rw [HC.out]
    rintro e w1 ⟨rfl, b1⟩
    have B1 := Lib.hid b1
    clear b1
    go_wp2
    exact bodyPost_ret (results_tmp2 rfl _ _ _) rfl (by exact ⟨rfl, B1.out⟩)

end Go.Proofs.Ytnmllekbajeenaa

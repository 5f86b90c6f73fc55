/-
  Layer 8, the program's rows that it writes into: the first one of a place and those below it, a timer that sinks, one that settles, and a row without one.
-/
import Derived.Test.YtjamoafihmcmeaaHb
namespace Go.Proofs.Ytjamoafihmcmeaa
open Go.RowKit

set_option maxHeartbeats 2000000 in
theorem firstof_any (base g c : Nat) (l : List Tm) (i : Nat) (w : World) (ho : RowT w base g c l) (hi : i < l.length) (hn : l.length ≤ 1000) :
    Calls Try.prog 56 #[.slice (some ⟨g, 0, none⟩) l.length c, .int .i64 (i : Int)] w (RetB (.int .i64 ((fst4 l i : Nat) : Int)) w) := by
  have HO := Lib.hid ho
  have HI := Lib.hid hi
  obtain ⟨n, hln⟩ : ∃ n, l.length = n := ⟨_, rfl⟩
  rw [hln] at hi hn ⊢
  have HL0 := Lib.hid hln
  clear ho hln
  go_enter Try.func56, Try.ntmps56
  go_wp2_with fail
  go_loopw [5, 6] (fun t s wr => ∃ (k f a : Nat), Hid (k ≤ 4) ∧ t = .int .i64 (f : Int) ∧ s = .int .i64 (a : Int) ∧ Hid (a = 4 * i + 1 + k) ∧ Hid (f = fstK l i k) ∧ Hid (Below w.heap.size w wr)) (fun _ s _ => 4 * i + 6 - (intOf s).toNat)
  case atStart => exact ⟨0, i, 4 * i + 1, Lib.hid (by omega), rfl, by go_num, Lib.hid rfl, Lib.hid rfl, Lib.hid (Below.refl _ _)⟩
  case round =>
    rename World => wr
    obtain ⟨k, f, a, HK4, rfl, rfl, HA, HFK, BW⟩ := hrel
    have ha := HA.out
    have hk := HK4.out
    have HI2 := Lib.hid hi
    have HF := Lib.hid (show f < l.length by rw [HFK.out]; exact fstK_lt HI.out k)
    have hfn : f < n := by rw [← HL0.out]; exact HF.out
    by_cases hk4 : k < 4
    · have t0 : decide ((a : Int) ≤ 4 * ((i : Int) + 1)) = true := decide_eq_true (by omega)
      by_cases hkn : a < n
      · have t1 : decide ((a : Int) < (n : Int)) = true := decide_eq_true (by omega)
        have HK := Lib.hid (show a < l.length by rw [HL0.out]; exact hkn)
        obtain ⟨⟨x1, x2⟩, hx⟩ : ∃ x, ith l a = x := ⟨_, rfl⟩
        have HX := Lib.hid hx
        obtain ⟨⟨y1, y2⟩, hy⟩ : ∃ y, ith l f = y := ⟨_, rfl⟩
        have HY := Lib.hid hy
        clear hx hy ha hk
        by_cases hl : lessT (x1, x2) (y1, y2)
        · have HL := Lib.hid (decide_eq_true hl)
          have HLT := Lib.hid hl
          clear hl
          go_wp2_with fail
          refine calm_region (S := fun U => Below wr.heap.size wr U) (by kernel_rfl) (Below.refl _ _).drew ?_
          refine calm_to (i := 0) (t := 24) (v := .slice (some ⟨g, 0, none⟩) n c) rfl rfl (by kernel_rfl) (by kernel_rfl) (by kernel_rfl) (fun _ _ _ h => h) (calm_move (by kernel_rfl) (.tmp 0) (.inl rfl) rfl) ?_
          simp only [List.setIfInBounds_toArray, List.set_cons_zero, List.set_cons_succ]
          refine calm_to (i := 1) (t := 25) (v := .int .i64 (a : Int)) rfl rfl (by kernel_rfl) (by kernel_rfl) (by kernel_rfl) (fun _ _ _ h => h) (calm_move (by kernel_rfl) (.tmp 6) (.inl rfl) rfl) ?_
          simp only [List.setIfInBounds_toArray, List.set_cons_zero, List.set_cons_succ]
          refine calm_to (i := 2) (t := 26) (v := .pointer (some ⟨g, a * 2, none⟩)) rfl rfl (by kernel_rfl) (by kernel_rfl) (by kernel_rfl) (fun _ _ _ h => h) (calm_of (by kernel_rfl) (fun U hU => by go_simp)) ?_
          simp only [List.setIfInBounds_toArray, List.set_cons_zero, List.set_cons_succ]
          refine calm_to (i := 3) (t := 27) (v := .agg #[.int .i64 x1, .int .i64 x2]) rfl rfl (by kernel_rfl) (by kernel_rfl) (by kernel_rfl) (fun _ _ _ h => h) (calm_of (by kernel_rfl) (fun U hU => by obtain ⟨q0, q1⟩ := (HO.out.below (BW.out.trans (hU.mono BW.out.size))).here HK.out HX.out; go_simp)) ?_
          simp only [List.setIfInBounds_toArray, List.set_cons_zero, List.set_cons_succ]
          refine calm_to (i := 4) (t := 28) (v := .slice (some ⟨g, 0, none⟩) n c) rfl rfl (by kernel_rfl) (by kernel_rfl) (by kernel_rfl) (fun _ _ _ h => h) (calm_move (by kernel_rfl) (.tmp 0) (.inl rfl) rfl) ?_
          simp only [List.setIfInBounds_toArray, List.set_cons_zero, List.set_cons_succ]
          refine calm_to (i := 5) (t := 29) (v := .int .i64 (f : Int)) rfl rfl (by kernel_rfl) (by kernel_rfl) (by kernel_rfl) (fun _ _ _ h => h) (calm_move (by kernel_rfl) (.tmp 5) (.inl rfl) rfl) ?_
          simp only [List.setIfInBounds_toArray, List.set_cons_zero, List.set_cons_succ]
          refine calm_to (i := 6) (t := 30) (v := .pointer (some ⟨g, f * 2, none⟩)) rfl rfl (by kernel_rfl) (by kernel_rfl) (by kernel_rfl) (fun _ _ _ h => h) (calm_of (by kernel_rfl) (fun U hU => by go_simp)) ?_
          simp only [List.setIfInBounds_toArray, List.set_cons_zero, List.set_cons_succ]
          refine calm_to (i := 7) (t := 31) (v := .agg #[.int .i64 y1, .int .i64 y2]) rfl rfl (by kernel_rfl) (by kernel_rfl) (by kernel_rfl) (fun _ _ _ h => h) (calm_of (by kernel_rfl) (fun U hU => by obtain ⟨q0, q1⟩ := (HO.out.below (BW.out.trans (hU.mono BW.out.size))).here HF.out HY.out; go_simp)) ?_
          simp only [List.setIfInBounds_toArray, List.set_cons_zero, List.set_cons_succ]
          refine calm_to (i := 8) (t := 32) (v := .bool true) rfl rfl (by kernel_rfl) (by kernel_rfl) (by kernel_rfl) (fun _ _ _ h => h) (calm_call2 (by kernel_rfl) 47 (.tmp 27) (.tmp 31) #[24, 24] rfl (enters_of Try.func47 (by kernel_rfl) rfl) (.agg #[.int .i64 x1, .int .i64 x2]) (.agg #[.int .i64 y1, .int .i64 y2]) rfl rfl (fun U hU => (ahead_any x1 x2 y1 y2 U).mono fun _ _ q => ⟨by rw [q.1, HL.out], hU.trans (q.2.mono hU.size)⟩)) ?_
          simp only [List.setIfInBounds_toArray, List.set_cons_zero, List.set_cons_succ]
          refine calm_done (by kernel_rfl) (fun U hU => ?_) _
          have HB := Lib.hid (BW.out.trans (hU.mono BW.out.size))
          clear hU BW
          go_wp2_with fail
          go_roundw
          case rel => exact ⟨k + 1, a, a + 1, Lib.hid (by omega), rfl, by go_num, Lib.hid (by have := HA.out; omega), Lib.hid (by have := HK.out; have := HX.out; have := HFK.out; have := HY.out; have := HLT.out; have ha := HA.out; subst ha; unfold fstK; rw [if_pos ⟨HK.out, by rw [HX.out, ← HFK.out, HY.out]; exact HLT.out⟩]), HB⟩
          case measure => have := HA.out; have := HI2.out; simp only [intOf]; omega
        · have HL := Lib.hid (decide_eq_false hl)
          have HLT := Lib.hid hl
          clear hl
          go_wp2_with fail
          refine calm_region (S := fun U => Below wr.heap.size wr U) (by kernel_rfl) (Below.refl _ _).drew ?_
          refine calm_to (i := 0) (t := 24) (v := .slice (some ⟨g, 0, none⟩) n c) rfl rfl (by kernel_rfl) (by kernel_rfl) (by kernel_rfl) (fun _ _ _ h => h) (calm_move (by kernel_rfl) (.tmp 0) (.inl rfl) rfl) ?_
          simp only [List.setIfInBounds_toArray, List.set_cons_zero, List.set_cons_succ]
          refine calm_to (i := 1) (t := 25) (v := .int .i64 (a : Int)) rfl rfl (by kernel_rfl) (by kernel_rfl) (by kernel_rfl) (fun _ _ _ h => h) (calm_move (by kernel_rfl) (.tmp 6) (.inl rfl) rfl) ?_
          simp only [List.setIfInBounds_toArray, List.set_cons_zero, List.set_cons_succ]
          refine calm_to (i := 2) (t := 26) (v := .pointer (some ⟨g, a * 2, none⟩)) rfl rfl (by kernel_rfl) (by kernel_rfl) (by kernel_rfl) (fun _ _ _ h => h) (calm_of (by kernel_rfl) (fun U hU => by go_simp)) ?_
          simp only [List.setIfInBounds_toArray, List.set_cons_zero, List.set_cons_succ]
          refine calm_to (i := 3) (t := 27) (v := .agg #[.int .i64 x1, .int .i64 x2]) rfl rfl (by kernel_rfl) (by kernel_rfl) (by kernel_rfl) (fun _ _ _ h => h) (calm_of (by kernel_rfl) (fun U hU => by obtain ⟨q0, q1⟩ := (HO.out.below (BW.out.trans (hU.mono BW.out.size))).here HK.out HX.out; go_simp)) ?_
          simp only [List.setIfInBounds_toArray, List.set_cons_zero, List.set_cons_succ]
          refine calm_to (i := 4) (t := 28) (v := .slice (some ⟨g, 0, none⟩) n c) rfl rfl (by kernel_rfl) (by kernel_rfl) (by kernel_rfl) (fun _ _ _ h => h) (calm_move (by kernel_rfl) (.tmp 0) (.inl rfl) rfl) ?_
          simp only [List.setIfInBounds_toArray, List.set_cons_zero, List.set_cons_succ]
          refine calm_to (i := 5) (t := 29) (v := .int .i64 (f : Int)) rfl rfl (by kernel_rfl) (by kernel_rfl) (by kernel_rfl) (fun _ _ _ h => h) (calm_move (by kernel_rfl) (.tmp 5) (.inl rfl) rfl) ?_
          simp only [List.setIfInBounds_toArray, List.set_cons_zero, List.set_cons_succ]
          refine calm_to (i := 6) (t := 30) (v := .pointer (some ⟨g, f * 2, none⟩)) rfl rfl (by kernel_rfl) (by kernel_rfl) (by kernel_rfl) (fun _ _ _ h => h) (calm_of (by kernel_rfl) (fun U hU => by go_simp)) ?_
          simp only [List.setIfInBounds_toArray, List.set_cons_zero, List.set_cons_succ]
          refine calm_to (i := 7) (t := 31) (v := .agg #[.int .i64 y1, .int .i64 y2]) rfl rfl (by kernel_rfl) (by kernel_rfl) (by kernel_rfl) (fun _ _ _ h => h) (calm_of (by kernel_rfl) (fun U hU => by obtain ⟨q0, q1⟩ := (HO.out.below (BW.out.trans (hU.mono BW.out.size))).here HF.out HY.out; go_simp)) ?_
          simp only [List.setIfInBounds_toArray, List.set_cons_zero, List.set_cons_succ]
          refine calm_to (i := 8) (t := 32) (v := .bool false) rfl rfl (by kernel_rfl) (by kernel_rfl) (by kernel_rfl) (fun _ _ _ h => h) (calm_call2 (by kernel_rfl) 47 (.tmp 27) (.tmp 31) #[24, 24] rfl (enters_of Try.func47 (by kernel_rfl) rfl) (.agg #[.int .i64 x1, .int .i64 x2]) (.agg #[.int .i64 y1, .int .i64 y2]) rfl rfl (fun U hU => (ahead_any x1 x2 y1 y2 U).mono fun _ _ q => ⟨by rw [q.1, HL.out], hU.trans (q.2.mono hU.size)⟩)) ?_
          simp only [List.setIfInBounds_toArray, List.set_cons_zero, List.set_cons_succ]
          refine calm_done (by kernel_rfl) (fun U hU => ?_) _
          have HB := Lib.hid (BW.out.trans (hU.mono BW.out.size))
          clear hU BW
          go_wp2_with fail
          go_roundw
          case rel => exact ⟨k + 1, f, a + 1, Lib.hid (by omega), rfl, by go_num, Lib.hid (by have := HA.out; omega), Lib.hid (by have ha := HA.out; subst ha; unfold fstK; rw [if_neg (fun q => HLT.out (by have := q.2; rw [HX.out, ← HFK.out, HY.out] at this; exact this))]; exact HFK.out), HB⟩
          case measure => have := HA.out; have := HI2.out; simp only [intOf]; omega
      · have t1 : decide ((a : Int) < (n : Int)) = false := decide_eq_false (by omega)
        have HE := Lib.hid (show (f : Int) = ((fst4 l i : Nat) : Int) by
          have h1 := fstK_end (l := l) (i := i) (k := k) (by rw [HL0.out]; omega) (4 - k)
          rw [show k + (4 - k) = 4 by omega] at h1
          rw [fst4, h1, HFK.out])
        clear ha hk hk4
        go_wp2_with fail
        go_ret
        exact ⟨by rw [← HE.out]; rfl, BW.out⟩
    · have HK5 := Lib.hid (show k = 4 by omega)
      have t0 : decide ((a : Int) ≤ 4 * ((i : Int) + 1)) = false := decide_eq_false (by omega)
      have HE := Lib.hid (show (f : Int) = ((fst4 l i : Nat) : Int) by rw [fst4, HFK.out, HK5.out])
      clear ha hk hk4
      go_wp2_with fail
      go_ret
      exact ⟨by rw [← HE.out]; rfl, BW.out⟩

set_option maxHeartbeats 2000000 in
theorem sink_any (base g c : Nat) (l : List Tm) (i : Nat) (w : World) (ho : RowT w base g c l) (hi : i < l.length) (hn : l.length ≤ 1000) :
    Calls Try.prog 50 #[.slice (some ⟨g, 0, none⟩) l.length c, .int .i64 (i : Int)] w (RiseP w base g c l (Sink l i)) := by
  have HF1 := Lib.hid (firstof_any base g c l i w ho hi hn)
  have HO := Lib.hid ho
  have HI := Lib.hid hi
  have HN := Lib.hid hn
  obtain ⟨n, hln⟩ : ∃ n, l.length = n := ⟨_, rfl⟩
  rw [hln] at HF1 ⊢
  have HL0 := Lib.hid hln
  clear ho hi hn hln
  go_enter Try.func50, Try.ntmps50
  go_wp2_with fail
  refine HF1.out.mono ?_
  rintro e w1 ⟨rfl, b1⟩
  have HO1 := Lib.hid (HO.out.below b1)
  have HG1 := Lib.hid (show w.grownBy w1 (some g) from Below.gb b1)
  clear b1 HF1 HO
  go_wp2_with fail
  go_loopw [1, 4] (fun t s wr => ∃ (j f : Nat) (m : List Tm), t = .int .i64 (j : Int) ∧ s = .int .i64 (f : Int) ∧ Hid (f = fst4 m j) ∧ Hid (j < m.length) ∧ Hid (m.length = n) ∧ Hid (∀ r, Sink m j r → Sink l i r) ∧ Hid (RowT wr base g c m) ∧ Hid (w.grownBy wr (some g))) (fun t _ _ => n - (intOf t).toNat)
  case atStart => exact ⟨i, fst4 l i, l, rfl, rfl, Lib.hid rfl, HI, HL0, Lib.hid (fun r h => h), HO1, HG1⟩
  case round =>
    clear HO1 HI HG1
    rename World => wr
    obtain ⟨j, f, m, rfl, rfl, HFE, HJ, HLM, HR, HO, HG⟩ := hrel
    have hjn : j < n := by rw [← HLM.out]; exact HJ.out
    have hn1 : n ≤ 1000 := by rw [← HL0.out]; exact HN.out
    by_cases hfj : f = j
    · have t0 : ((f : Int) != (j : Int)) = false := by simp [hfj]
      have HST := Lib.hid (Sink.stop (l := m) (i := j) (by rw [← HFE.out]; exact hfj))
      clear hfj
      go_wp2_with fail
      go_end0
      exact ⟨rfl, m, HR.out _ HST.out, by rw [HLM.out, HL0.out], HO.out, HG.out⟩
    · have t0 : ((f : Int) != (j : Int)) = true := by simp; omega
      have hne : fst4 m j ≠ j := by rw [← HFE.out]; exact hfj
      obtain ⟨h1, h2, h3, h4⟩ := fst4_less hne
      have HNE := Lib.hid hne
      rw [← HFE.out] at h2 h3
      have HF := Lib.hid h3
      have hfn : f < n := by rw [← HLM.out]; exact h3
      obtain ⟨⟨x1, x2⟩, hx⟩ : ∃ x, ith m j = x := ⟨_, rfl⟩
      have HX := Lib.hid hx
      obtain ⟨⟨y1, y2⟩, hy⟩ : ∃ y, ith m f = y := ⟨_, rfl⟩
      have HY := Lib.hid hy
      clear hx hy hfj hne h1 h3 h4
      go_wp2_with fail
      refine wp_region_any (by kernel_rfl) ?_
      obtain ⟨U, hU0⟩ : ∃ U, wr = U := ⟨_, rfl⟩
      subst hU0
      have HO1 := HO
      have HG1 := HG
      refine any_at (i := 2) (d := 16) (v := .slice (some ⟨g, 0, none⟩) n c) rfl rfl (by kernel_rfl) (by kernel_rfl) (by kernel_rfl) (fun _ _ _ h => h) (.inl ⟨by kernel_rfl, fun U => by go_simp⟩) ?_
      simp only [Act.put, List.setIfInBounds_toArray, List.set_cons_zero, List.set_cons_succ]
      refine any_at (i := 3) (d := 17) (v := .int .i64 (f : Int)) rfl rfl (by kernel_rfl) (by kernel_rfl) (by kernel_rfl) (fun _ _ _ h => h) (.inl ⟨by kernel_rfl, fun U => by go_simp⟩) ?_
      simp only [Act.put, List.setIfInBounds_toArray, List.set_cons_zero, List.set_cons_succ]
      refine calmX_start (S := fun U => Below wr.heap.size wr U) 12 [2, 3] 10 (by kernel_rfl) (by kernel_rfl) (by kernel_rfl) (Below.refl _ _).drew ?_
      refine calmX_to (i := 0) (t := 14) (v := .slice (some ⟨g, 0, none⟩) n c) rfl rfl (by decide) (by kernel_rfl) (by kernel_rfl) (fun _ _ _ h => h) (calm_move (by kernel_rfl) (.tmp 0) (.inl rfl) rfl) ?_
      simp only [List.setIfInBounds_toArray, List.set_cons_zero, List.set_cons_succ]
      refine calmX_to (i := 1) (t := 15) (v := .int .i64 (j : Int)) rfl rfl (by decide) (by kernel_rfl) (by kernel_rfl) (fun _ _ _ h => h) (calm_move (by kernel_rfl) (.tmp 1) (.inl rfl) rfl) ?_
      simp only [List.setIfInBounds_toArray, List.set_cons_zero, List.set_cons_succ]
      refine calmX_to (i := 4) (t := 18) (v := .slice (some ⟨g, 0, none⟩) n c) rfl rfl (by decide) (by kernel_rfl) (by kernel_rfl) (fun _ _ _ h => h) (calm_move (by kernel_rfl) (.tmp 0) (.inl rfl) rfl) ?_
      simp only [List.setIfInBounds_toArray, List.set_cons_zero, List.set_cons_succ]
      refine calmX_to (i := 5) (t := 19) (v := .int .i64 (f : Int)) rfl rfl (by decide) (by kernel_rfl) (by kernel_rfl) (fun _ _ _ h => h) (calm_move (by kernel_rfl) (.tmp 4) (.inl rfl) rfl) ?_
      simp only [List.setIfInBounds_toArray, List.set_cons_zero, List.set_cons_succ]
      refine calmX_to (i := 6) (t := 20) (v := .pointer (some ⟨g, f * 2, none⟩)) rfl rfl (by decide) (by kernel_rfl) (by kernel_rfl) (fun _ _ _ h => h) (calm_of (by kernel_rfl) (fun U hU => by go_simp)) ?_
      simp only [List.setIfInBounds_toArray, List.set_cons_zero, List.set_cons_succ]
      refine calmX_to (i := 7) (t := 21) (v := .agg #[.int .i64 y1, .int .i64 y2]) rfl rfl (by decide) (by kernel_rfl) (by kernel_rfl) (fun _ _ _ h => h) (calm_of (by kernel_rfl) (fun U hU => by obtain ⟨q0, q1⟩ := (HO1.out.below hU).here HF.out HY.out; go_simp)) ?_
      simp only [List.setIfInBounds_toArray, List.set_cons_zero, List.set_cons_succ]
      refine calmX_to (i := 8) (t := 22) (v := .slice (some ⟨g, 0, none⟩) n c) rfl rfl (by decide) (by kernel_rfl) (by kernel_rfl) (fun _ _ _ h => h) (calm_move (by kernel_rfl) (.tmp 0) (.inl rfl) rfl) ?_
      simp only [List.setIfInBounds_toArray, List.set_cons_zero, List.set_cons_succ]
      refine calmX_to (i := 9) (t := 23) (v := .int .i64 (j : Int)) rfl rfl (by decide) (by kernel_rfl) (by kernel_rfl) (fun _ _ _ h => h) (calm_move (by kernel_rfl) (.tmp 1) (.inl rfl) rfl) ?_
      simp only [List.setIfInBounds_toArray, List.set_cons_zero, List.set_cons_succ]
      refine calmX_to (i := 10) (t := 24) (v := .pointer (some ⟨g, j * 2, none⟩)) rfl rfl (by decide) (by kernel_rfl) (by kernel_rfl) (fun _ _ _ h => h) (calm_of (by kernel_rfl) (fun U hU => by go_simp)) ?_
      simp only [List.setIfInBounds_toArray, List.set_cons_zero, List.set_cons_succ]
      refine calmX_to (i := 11) (t := 25) (v := .agg #[.int .i64 x1, .int .i64 x2]) rfl rfl (by decide) (by kernel_rfl) (by kernel_rfl) (fun _ _ _ h => h) (calm_of (by kernel_rfl) (fun U hU => by obtain ⟨q0, q1⟩ := (HO1.out.below hU).here HJ.out HX.out; go_simp)) ?_
      simp only [List.setIfInBounds_toArray, List.set_cons_zero, List.set_cons_succ]
      refine calmX_done _ rfl rfl (by kernel_rfl) (fun U hU => ?_)
      rename World => U2
      have HO2 := Lib.hid (HO1.out.below hU)
      have HG2 := Lib.hid (gb_trans HG1.out (Below.gb hU))
      clear hU HO1 HG1 HO HG
      obtain ⟨c0, c1, f0, f1⟩ := HO2.out.at2 HJ.out
      have fx : FitI (x1, x2) := by rw [← HX.out]; exact HO2.out.fit HJ.out
      have fy : FitI (y1, y2) := by rw [← HY.out]; exact HO2.out.fit HF.out
      have o3 : RowT (put2 U2 g j (y1, y2)) base g c (m.set j (y1, y2)) := HO2.out.put j fy
      have o4 : RowT (put2 (put2 U2 g j (y1, y2)) g f (x1, x2)) base g c ((m.set j (y1, y2)).set f (x1, x2)) := o3.put f fx
      obtain ⟨d0, d1, e0, e1⟩ := o3.at2 (i := f) (by rw [List.length_set]; exact HF.out)
      have HG4 := Lib.hid (gb_trans HG2.out (gb_trans (put2_grown U2 g j (y1, y2)) (put2_grown (put2 U2 g j (y1, y2)) g f (x1, x2))))
      rw [show (m.set j (y1, y2)).set f (x1, x2) = swapL m j f by unfold swapL; rw [HX.out, HY.out]] at o4
      have HO4 := Lib.hid o4
      unfold put2 at HO4 HG4 d0 d1 e0 e1
      simp only at HO4 HG4 d0 d1 e0 e1
      clear o3 o4 fx fy HO2 HG2

      have hlen : (swapL m j f).length = n := by rw [swap_len, HLM.out]
      have HC := Lib.hid (fun U (o : RowT U base g c (swapL m j f)) => hlen ▸ firstof_any base g c (swapL m j f) f U o (by rw [hlen]; exact hfn) (by rw [hlen]; exact hn1))
      have HLEN := Lib.hid hlen
      clear hlen
      go_wp2_with fail
      refine (HC.out _ HO4.out).mono ?_
      rintro e w5 ⟨rfl, b5⟩
      have HO5 := Lib.hid (HO4.out.below b5)
      have HG5 := Lib.hid (gb_trans HG4.out (Below.gb b5))
      clear b5 HO4 HG4 c0 c1 f0 f1 d0 d1 e0 e1 HC
      go_wp2_with fail
      go_roundw
      case rel => exact ⟨f, fst4 (swapL m j f) f, swapL m j f, rfl, rfl, Lib.hid rfl, Lib.hid (by rw [HLEN.out]; exact hfn), HLEN, Lib.hid (fun r h => HR.out r (.step HNE.out (by rw [← HFE.out]; exact h))), HO5, HG5⟩
      case measure => simp only [intOf]; omega

theorem settle_any (base g c : Nat) (l : List Tm) (i : Nat) (w : World) (ho : RowT w base g c l) (hi : i < l.length) (hn : l.length ≤ 1000) :
    Calls Try.prog 43 #[.slice (some ⟨g, 0, none⟩) l.length c, .int .i64 (i : Int)] w (RiseP w base g c l (Settle l i)) := by
  have HR := Lib.hid (rise_any base g c l i w ho hi hn)
  have HS := Lib.hid (fun (m : List Tm) U (hl : m.length = l.length) (o : RowT U base g c m) => hl ▸ sink_any base g c m i U o (by rw [hl]; exact hi) (by rw [hl]; exact hn))
  obtain ⟨n, hln⟩ : ∃ n, l.length = n := ⟨_, rfl⟩
  rw [hln] at HR HS ⊢
  have HL0 := Lib.hid hln
  clear ho hi hn hln
  go_enter Try.func43, Try.ntmps43
  go_wp2_with fail
  refine HR.out.mono ?_
  rintro e w1 ⟨rfl, m, hm, lm, o1, g1⟩
  have HM := Lib.hid hm
  have LM := Lib.hid lm
  have HG1 := Lib.hid g1
  have HS1 := Lib.hid (HS.out m w1 (by rw [lm, HL0.out]) o1)
  clear hm lm o1 g1 HS HR
  go_wp2_with fail
  refine HS1.out.mono ?_
  rintro e w2 ⟨rfl, r, hr, lr, o2, g2⟩
  have HR := Lib.hid hr
  have LR := Lib.hid lr
  have HO2 := Lib.hid o2
  have HG2 := Lib.hid g2
  clear hr lr o2 g2
  go_wp2_with fail
  go_end0
  exact ⟨rfl, r, ⟨m, HM.out, HR.out⟩, LR.out.trans LM.out, HO2.out, gb_trans HG1.out HG2.out⟩

theorem cellsP_take (l : List Tm) : ∀ k, cellsP (l.take k) = (cellsP l).take (k * 2) := by
  induction l with
  | nil => intro k; simp [cellsP]
  | cons t l ih =>
    intro k
    match k with
    | 0 => simp [cellsP]
    | k + 1 =>
      have e : cellsP (t :: l) = [Value.int .i64 t.1, .int .i64 t.2] ++ cellsP l := by simp [cellsP, cells2]
      have e2 : cellsP ((t :: l).take (k + 1)) = [Value.int .i64 t.1, .int .i64 t.2] ++ cellsP (l.take k) := by simp [cellsP, cells2]
      rw [e, e2, ih k, show (k + 1) * 2 = k * 2 + 2 by omega]
      simp
theorem OwnT.cut {w : World} {base g c : Nat} {l : List Tm} (h : RowT w base g c l) {k : Nat} (hk : k ≤ l.length) : RowT w base g c (l.take k) := by
  obtain ⟨h1, h2, h3, h4⟩ := h
  have hlen : (l.take k).length = k := by rw [List.length_take]; omega
  refine ⟨by omega, fun x hx => h2 x (List.mem_of_mem_take hx), by rw [cellsP_len], ?_⟩
  rcases h4 with ⟨e, _⟩ | ⟨g', cap, cur, e, a1, a2, a3, a4, a5, a6⟩
  · simp at e
  · simp only [Value.slice.injEq, Option.some.injEq, Addr.mk.injEq, and_true, true_and] at e
    obtain ⟨rfl, rfl⟩ := e
    refine .inr ⟨g, c, cur, rfl, a1, a2, by omega, a4, a5, ?_⟩
    rw [hlen, cellsP_take, ← a6, List.take_take]
    congr 1
    omega
def WoutP (w : World) (base g c : Nat) (l : List Tm) (i : Nat) (e : Ending) (w' : World) : Prop :=
  ∃ r : List Tm, e = .returned (.slice (some ⟨g, 0, none⟩) r.length c) ∧ (if i < l.length - 1 then Settle (wout l i) i r else r = wout l i) ∧ RowT w' base g c r ∧ w.grownBy w' (some g)

set_option maxHeartbeats 2000000 in
theorem without_any (base g c : Nat) (l : List Tm) (i : Nat) (w : World) (ho : RowT w base g c l) (hi : i < l.length) (hn : l.length ≤ 1000) :
    Calls Try.prog 41 #[.slice (some ⟨g, 0, none⟩) l.length c, .int .i64 (i : Int)] w (WoutP w base g c l i) := by
  obtain ⟨k, hlk⟩ : ∃ k, l.length = k + 1 := ⟨l.length - 1, by omega⟩
  have hcap := ho.cap
  obtain ⟨⟨x1, x2⟩, hx⟩ : ∃ x, ith l k = x := ⟨_, rfl⟩
  have fx : FitI (x1, x2) := by rw [← hx]; exact ho.fit (by omega)
  obtain ⟨q0, q1⟩ := ho.here (i := k) (by omega) hx
  obtain ⟨c0, c1, f0, f1⟩ := ho.at2 hi
  have ow : wout l i = (l.set i (x1, x2)).take k := by unfold wout; rw [show l.length - 1 = k by omega, hx]
  have lw : (wout l i).length = k := by rw [wout_len]; omega
  have o1 : RowT (put2 w g i (x1, x2)) base g c (wout l i) := by
    rw [ow]
    exact (ho.put i fx).cut (by rw [List.length_set]; omega)
  have HG1 := Lib.hid (put2_grown w g i (x1, x2))
  have HC := Lib.hid (fun U (o : RowT U base g c (wout l i)) (h : i < k) => lw ▸ settle_any base g c (wout l i) i U o (by rw [lw]; exact h) (by rw [lw]; omega))
  have HO1 := Lib.hid o1
  have HLK := Lib.hid hlk
  have HLW := Lib.hid lw
  unfold put2 at HO1 HG1
  simp only at HO1 HG1
  have hik : i < k + 1 := by omega
  have hk1 : k + 1 ≤ 1000 := by omega
  have hc1 : k + 1 ≤ c := by omega
  have hc2 := hcap.2
  have hkz : ((k + 1 : Nat) : Int) - 1 = (k : Int) := by omega
  rw [hlk]
  clear ho hi hn hcap hx fx ow lw o1 hlk
  by_cases h : i < k
  · have t0 : decide ((i : Int) < (k : Int)) = true := decide_eq_true (by omega)
    have HH := Lib.hid h
    go_enter Try.func41, Try.ntmps41
    go_wp2_with fail
    refine (HC.out _ HO1.out HH.out).mono ?_
    rintro e w2 ⟨rfl, r, hr, lr, o2, g2⟩
    have HR := Lib.hid hr
    have LR := Lib.hid lr
    have HO2 := Lib.hid o2
    have HG2 := Lib.hid (gb_trans HG1.out g2)
    clear hr lr o2 g2
    go_wp2_with fail
    go_ret
    exact ⟨r, by rw [LR.out, HLW.out]; rfl, by rw [if_pos (by rw [HLK.out]; exact HH.out)]; exact HR.out, HO2.out, HG2.out⟩
  · have t0 : decide ((i : Int) < (k : Int)) = false := decide_eq_false (by omega)
    have HH := Lib.hid h
    clear h
    go_enter Try.func41, Try.ntmps41
    go_wp2_with fail
    go_ret
    exact ⟨wout l i, by rw [HLW.out]; rfl, by rw [if_neg (by rw [HLK.out]; exact HH.out)], HO1.out, HG1.out⟩

end Go.Proofs.Ytjamoafihmcmeaa

/-
  Layer 19, the program: sema.New, of any number.
-/
import Derived.Test.YtpfnoohcilefhaaEnf
import Derived.Test.YtpfnoohcilefhaaCalmT
import Derived.Test.YtpfnoohcilefhaaCalmX
namespace Go.Proofs.Ytpfnoohcilefhaa
open Go.RowKit

theorem smay_en (g : Nat) (z : Int) (w : World) (q0 : w.cell? ⟨g, 0, none⟩ = some (.int .i64 z)) (lg : g < w.heap.size) :
    Calls Try.prog 80 #[.pointer (some ⟨g, 0, none⟩)] w (RetB (.bool (decide (0 ≤ z ∧ z ≤ 1000))) w) := by
  have := lg; clear this
  by_cases h0 : 0 ≤ z
  · have t0 : decide (0 ≤ z) = true := decide_eq_true h0
    have HE := Lib.hid (show decide (0 ≤ z ∧ z ≤ 1000) = decide (z ≤ 1000) by rw [decide_eq_decide]; exact ⟨fun q => q.2, fun q => ⟨h0, q⟩⟩)
    clear h0
    obtain ⟨v, hv⟩ : ∃ v, decide (z ≤ 1000) = v := ⟨_, rfl⟩
    rw [hv] at HE
    go_enter Try.func80, Try.ntmps80
    go_wp2_with fail
    go_ret
    rw [HE.out]
    exact ⟨rfl, Below.refl _ _⟩
  · have t0 : decide (0 ≤ z) = false := decide_eq_false h0
    have HE := Lib.hid (show decide (0 ≤ z ∧ z ≤ 1000) = false from decide_eq_false (fun q => h0 q.1))
    clear h0
    go_enter Try.func80, Try.ntmps80
    go_wp2_with fail
    go_ret
    rw [HE.out]
    exact ⟨rfl, Below.refl _ _⟩

theorem sempty_en (g : Nat) (A : Option Addr) (n c : Nat) (w : World) (q1 : w.cell? ⟨g, 1, none⟩ = some (.slice A n c)) (lg : g < w.heap.size) (hn : n ≤ 1000) :
    Calls Try.prog 82 #[.pointer (some ⟨g, 1, none⟩)] w (RetB (.bool (decide (n = 0))) w) := by
  have := lg; clear this
  have := hn; clear this
  by_cases h : n = 0
  · have HE := Lib.hid (show decide (n = 0) = true from decide_eq_true h)
    go_enter Try.func82, Try.ntmps82
    go_wp2_with fail
    go_ret
    rw [HE.out]
    exact ⟨by simp <;> omega, Below.refl _ _⟩
  · have HE := Lib.hid (show decide (n = 0) = false from decide_eq_false h)
    go_enter Try.func82, Try.ntmps82
    go_wp2_with fail
    go_ret
    rw [HE.out]
    exact ⟨by simp <;> omega, Below.refl _ _⟩

theorem run_makeMapE (n : Int) (w : World) : (Instr.makeMap 99 (some (.int .i64 n))).run Try.prog w = .ok (.map (some w.heap.size)) (w.alloc (.map #[] 0)) := by
  simp [Instr.makeMap, run_underlying Try.underlying99, go_sem]

set_option maxHeartbeats 1000000 in
theorem sfill_en (g : Nat) (z : Int) (w : World) (hk : Bk w g 103 #[.int .i64 z, .slice none 0 0, .map none]) :
    Calls Try.prog 81 #[.pointer (some ⟨g, 1, none⟩), .slice none 0 0] w (fun e w' => e = .returned (.bool true) ∧ (∃ m, Bk w' g 103 #[.int .i64 z, .slice none 0 0, .map m]) ∧ Below g w w') := by
  have hmk := run_makeMapE 0 w
  have bV := (Below.refl w.heap.size w).alloc (Nat.le_refl _) (.map #[] 0)
  have kV := hk.alloc (.map #[] 0)
  have HGL := Lib.hid hk.lt
  obtain ⟨b, hbb⟩ : ∃ b, w.heap.size = b := ⟨_, rfl⟩
  obtain ⟨V, hV⟩ : ∃ V, w.alloc (.map #[] 0) = V := ⟨_, rfl⟩
  rw [hV] at hmk bV kV
  rw [hbb] at hmk HGL
  have q2 : V.cell? ⟨g, 2, none⟩ = some (.map none) := (kV.cell 2).trans rfl
  have f2 := kV.frozen 2
  have lq := kV.lt
  have k1 := kV.set_ 2 (.map (some b))
  have b1 : Below g w (V.setCell ⟨g, 2, none⟩ (.map (some b))) := (bV.mono (Nat.le_of_lt hk.lt)).setCell (Nat.le_refl _) _
  have HK1 := Lib.hid k1
  have HB1 := Lib.hid b1
  obtain ⟨W1, hW1⟩ : ∃ W1, V.setCell ⟨g, 2, none⟩ (.map (some b)) = W1 := ⟨_, rfl⟩
  rw [hW1] at HK1 HB1
  have HW1 := Lib.hid hW1
  clear hk bV kV hbb hV k1 b1 hW1
  go_enter Try.func81, Try.ntmps81
  go_upto_region 4 with fail
  rw [HW1.out]
  clear HW1 hmk q2 f2 lq
  go_wp2_with fail
  go_loopw [18] (fun t wr => t = .int .i64 0 ∧ wr = W1) (fun _ _ => 0)
  case atStart => exact ⟨rfl, rfl⟩
  case round =>
    obtain ⟨rfl, hwr⟩ := hrel
    subst hwr
    go_wp2_with fail
    go_ret
    exact ⟨rfl, ⟨_, HK1.out⟩, HB1.out⟩

set_option maxRecDepth 100000 in
set_option maxHeartbeats 4000000 in
theorem gate_en (z : Int) (w : World) :
    Calls Try.prog 75 #[.agg #[.int .i64 z, .slice none 0 0]] w (fun e w' => ∃ p, e = .returned (.tuple #[.pointer p, .int .i64 (if 0 ≤ z ∧ z ≤ 1000 then 0 else 1)]) ∧ Below w.heap.size w w') := by
  obtain ⟨k1, k2, hb0⟩ := lies2 w #[.int .i64 z, .slice none 0 0] #[.int .i64 z, .slice none 0 0, .map none] 56 103
  obtain ⟨V, hV⟩ : ∃ V, (w.alloc (.cells #[.int .i64 z, .slice none 0 0] 56)).alloc (.cells #[.int .i64 z, .slice none 0 0, .map none] 103) = V := ⟨_, rfl⟩
  rw [hV] at k1 k2 hb0
  have HV := Lib.hid hV
  have K1 := Lib.hid k1
  have K2 := Lib.hid k2
  have BB := Lib.hid hb0
  have lw := k2.lt
  clear k1 k2 hb0 hV
  obtain ⟨er, her⟩ : ∃ er : Int, (if 0 ≤ z ∧ z ≤ 1000 then (0 : Int) else 1) = er := ⟨_, rfl⟩
  rw [her]
  have HER := Lib.hid her
  clear her
  go_enter Try.func75, Try.ntmps75
  go_upto_region 2 with fail
  rw [HV.out]
  clear HV
  have c10 := K1.out.c0
  have c11 := K1.out.c1
  have c20 : _ = some (Value.int .i64 z) := K2.out.cell 0
  have lw1 := K1.out.lt
  by_cases hz : 0 ≤ z ∧ z ≤ 1000
  · have HE0 : Hid (er = 0) := Lib.hid (by rw [← HER.out, if_pos hz])
    have HM := Lib.hid (decide_eq_true hz)
    clear hz
    refine calmT_region 11 (S := fun U => Below V.heap.size V U) (by kernel_rfl) (by kernel_rfl) (Below.refl _ _).drew ?_
    refine calmT_to (i := 0) (t := 10) (v := .pointer (some ⟨w.heap.size + 1, 0, none⟩)) rfl rfl (by decide) (by kernel_rfl) (by kernel_rfl) (fun _ _ _ h => h) (calm_move (by kernel_rfl) (.tmp 4) (.inl rfl) rfl) ?_
    simp only [List.setIfInBounds_toArray, List.set_cons_zero, List.set_cons_succ]
    refine calmT_to (i := 1) (t := 11) (v := .pointer (some ⟨w.heap.size + 1, 0, none⟩)) rfl rfl (by decide) (by kernel_rfl) (by kernel_rfl) (fun _ _ _ h => h) (calm_of (by kernel_rfl) (fun U hU => by go_simp)) ?_
    simp only [List.setIfInBounds_toArray, List.set_cons_zero, List.set_cons_succ]
    refine calmT_to (i := 2) (t := 12) (v := .pointer (some ⟨w.heap.size + 1, 0, none⟩)) rfl rfl (by decide) (by kernel_rfl) (by kernel_rfl) (fun _ _ _ h => h) (calm_of (by kernel_rfl) (fun U hU => by go_simp)) ?_
    simp only [List.setIfInBounds_toArray, List.set_cons_zero, List.set_cons_succ]
    refine calmT_to (i := 3) (t := 13) (v := .bool true) rfl rfl (by decide) (by kernel_rfl) (by kernel_rfl) (fun _ _ _ h => h) (calm_call1 (by kernel_rfl) 80 (.tmp 12) #[98] rfl (enters_of Try.func80 (by kernel_rfl) rfl) (.pointer (some ⟨w.heap.size + 1, 0, none⟩)) rfl (fun U hU => (smay_en (w.heap.size + 1) z U ((hU.cell (p := ⟨w.heap.size + 1, 0, none⟩) lw).trans c20) (Nat.lt_of_lt_of_le lw hU.size)).mono fun _ _ q => ⟨by rw [q.1, HM.out], below3 hU q.2⟩)) ?_
    simp only [List.setIfInBounds_toArray, List.set_cons_zero, List.set_cons_succ]
    refine calmT_to (i := 4) (t := 14) (v := .bool false) rfl rfl (by decide) (by kernel_rfl) (by kernel_rfl) (fun _ _ _ h => h) (calm_of (by kernel_rfl) (fun U hU => by go_simp)) ?_
    simp only [List.setIfInBounds_toArray, List.set_cons_zero, List.set_cons_succ]
    refine calmT_to (i := 5) (t := 15) (v := .bool false) rfl rfl (by decide) (by kernel_rfl) (by kernel_rfl) (fun _ _ _ h => h) (calm_move (by kernel_rfl) (.tmp 14) (.inl rfl) rfl) ?_
    simp only [List.setIfInBounds_toArray, List.set_cons_zero, List.set_cons_succ]
    refine calmT_to (i := 6) (t := 16) (v := .pointer (some ⟨w.heap.size + 1, 0, none⟩)) rfl rfl (by decide) (by kernel_rfl) (by kernel_rfl) (fun _ _ _ h => h) (calm_move (by kernel_rfl) (.tmp 4) (.inl rfl) rfl) ?_
    simp only [List.setIfInBounds_toArray, List.set_cons_zero, List.set_cons_succ]
    refine calmT_to (i := 7) (t := 17) (v := .pointer (some ⟨w.heap.size + 1, 0, none⟩)) rfl rfl (by decide) (by kernel_rfl) (by kernel_rfl) (fun _ _ _ h => h) (calm_of (by kernel_rfl) (fun U hU => by go_simp)) ?_
    simp only [List.setIfInBounds_toArray, List.set_cons_zero, List.set_cons_succ]
    refine calmT_to (i := 8) (t := 18) (v := .pointer (some ⟨w.heap.size + 1, 1, none⟩)) rfl rfl (by decide) (by kernel_rfl) (by kernel_rfl) (fun _ _ _ h => h) (calm_of (by kernel_rfl) (fun U hU => by go_simp)) ?_
    simp only [List.setIfInBounds_toArray, List.set_cons_zero, List.set_cons_succ]
    refine calmT_to (i := 9) (t := 19) (v := .pointer (some ⟨w.heap.size, 1, none⟩)) rfl rfl (by decide) (by kernel_rfl) (by kernel_rfl) (fun _ _ _ h => h) (calm_of (by kernel_rfl) (fun U hU => by go_simp)) ?_
    simp only [List.setIfInBounds_toArray, List.set_cons_zero, List.set_cons_succ]
    refine calmT_to (i := 10) (t := 20) (v := .slice none 0 0) rfl rfl (by decide) (by kernel_rfl) (by kernel_rfl) (fun _ _ _ h => h) (calm_of (by kernel_rfl) (fun U hU => by have q1 := (hU.cell (p := ⟨w.heap.size, 1, none⟩) lw1).trans c11; have ql := Nat.lt_of_lt_of_le lw1 hU.size; go_simp)) ?_
    simp only [List.setIfInBounds_toArray, List.set_cons_zero, List.set_cons_succ]
    refine calmT_done _ rfl rfl (by kernel_rfl) (fun U hU => ?_)
    have KU := Lib.hid (K2.out.below hU lw)
    have BU := Lib.hid (below3 BB.out hU)
    clear hU c10 c11 c20 lw1 lw HM K1 K2 BB
    go_wp2_with fail
    refine (sfill_en (w.heap.size + 1) z _ KU.out).mono ?_
    rintro e w1 ⟨rfl, ⟨m1, k1⟩, bw⟩
    have K1 := Lib.hid k1
    have B1 := Lib.hid (BU.out.trans (bw.mono (by omega)))
    have q0 : _ = some (Value.int .i64 z) := k1.cell 0
    have q1 : _ = some (Value.slice none 0 0) := k1.cell 1
    have lq := k1.lt
    clear k1 bw KU BU
    by_cases h0 : 0 < z
    · have t0 : decide (0 < z) = true := decide_eq_true h0
      clear h0
      go_wp2_with fail
      refine (sempty_en (w.heap.size + 1) none 0 0 _ q1 lq (by omega)).mono ?_
      rw [show decide ((0 : Nat) = 0) = true from rfl]
      rintro e w2 ⟨rfl, b2⟩
      have B2 := Lib.hid (below3 B1.out b2)
      clear b2 q0 q1 lq B1
      go_wp2_with fail
      exact bodyPost_ret (results_tmp2 rfl _ _ _) rfl ⟨_, by rw [HE0.out]; rfl, B2.out⟩
    · have t0 : decide (0 < z) = false := decide_eq_false h0
      clear h0
      go_wp2_with fail
      exact bodyPost_ret (results_tmp2 rfl _ _ _) rfl ⟨_, by rw [HE0.out]; rfl, B1.out⟩
  · have HE0 : Hid (er = 1) := Lib.hid (by rw [← HER.out, if_neg hz])
    have HM := Lib.hid (decide_eq_false hz)
    clear hz
    refine calm_region (S := fun U => Below V.heap.size V U) (by kernel_rfl) (Below.refl _ _).drew ?_
    refine calm_to (i := 0) (t := 10) (v := .pointer (some ⟨w.heap.size + 1, 0, none⟩)) rfl rfl (by kernel_rfl) (by kernel_rfl) (by kernel_rfl) (fun _ _ _ h => h) (calm_move (by kernel_rfl) (.tmp 4) (.inl rfl) rfl) ?_
    simp only [List.setIfInBounds_toArray, List.set_cons_zero, List.set_cons_succ]
    refine calm_to (i := 1) (t := 11) (v := .pointer (some ⟨w.heap.size + 1, 0, none⟩)) rfl rfl (by kernel_rfl) (by kernel_rfl) (by kernel_rfl) (fun _ _ _ h => h) (calm_of (by kernel_rfl) (fun U hU => by go_simp)) ?_
    simp only [List.setIfInBounds_toArray, List.set_cons_zero, List.set_cons_succ]
    refine calm_to (i := 2) (t := 12) (v := .pointer (some ⟨w.heap.size + 1, 0, none⟩)) rfl rfl (by kernel_rfl) (by kernel_rfl) (by kernel_rfl) (fun _ _ _ h => h) (calm_of (by kernel_rfl) (fun U hU => by go_simp)) ?_
    simp only [List.setIfInBounds_toArray, List.set_cons_zero, List.set_cons_succ]
    refine calm_to (i := 3) (t := 13) (v := .bool false) rfl rfl (by kernel_rfl) (by kernel_rfl) (by kernel_rfl) (fun _ _ _ h => h) (calm_call1 (by kernel_rfl) 80 (.tmp 12) #[98] rfl (enters_of Try.func80 (by kernel_rfl) rfl) (.pointer (some ⟨w.heap.size + 1, 0, none⟩)) rfl (fun U hU => (smay_en (w.heap.size + 1) z U ((hU.cell (p := ⟨w.heap.size + 1, 0, none⟩) lw).trans c20) (Nat.lt_of_lt_of_le lw hU.size)).mono fun _ _ q => ⟨by rw [q.1, HM.out], below3 hU q.2⟩)) ?_
    simp only [List.setIfInBounds_toArray, List.set_cons_zero, List.set_cons_succ]
    refine calm_to (i := 4) (t := 14) (v := .bool true) rfl rfl (by kernel_rfl) (by kernel_rfl) (by kernel_rfl) (fun _ _ _ h => h) (calm_of (by kernel_rfl) (fun U hU => by go_simp)) ?_
    simp only [List.setIfInBounds_toArray, List.set_cons_zero, List.set_cons_succ]
    refine calm_to (i := 5) (t := 15) (v := .bool true) rfl rfl (by kernel_rfl) (by kernel_rfl) (by kernel_rfl) (fun _ _ _ h => h) (calm_move (by kernel_rfl) (.tmp 14) (.inl rfl) rfl) ?_
    simp only [List.setIfInBounds_toArray, List.set_cons_zero, List.set_cons_succ]
    refine calm_to (i := 6) (t := 16) (v := undef) rfl rfl (by kernel_rfl) (by kernel_rfl) (by kernel_rfl) (fun _ _ _ h => h) (calm_skip (by kernel_rfl)) ?_
    simp only [List.setIfInBounds_toArray, List.set_cons_zero, List.set_cons_succ]
    refine calm_to (i := 7) (t := 17) (v := undef) rfl rfl (by kernel_rfl) (by kernel_rfl) (by kernel_rfl) (fun _ _ _ h => h) (calm_skip (by kernel_rfl)) ?_
    simp only [List.setIfInBounds_toArray, List.set_cons_zero, List.set_cons_succ]
    refine calm_to (i := 8) (t := 18) (v := undef) rfl rfl (by kernel_rfl) (by kernel_rfl) (by kernel_rfl) (fun _ _ _ h => h) (calm_skip (by kernel_rfl)) ?_
    simp only [List.setIfInBounds_toArray, List.set_cons_zero, List.set_cons_succ]
    refine calm_to (i := 9) (t := 19) (v := undef) rfl rfl (by kernel_rfl) (by kernel_rfl) (by kernel_rfl) (fun _ _ _ h => h) (calm_skip (by kernel_rfl)) ?_
    simp only [List.setIfInBounds_toArray, List.set_cons_zero, List.set_cons_succ]
    refine calm_to (i := 10) (t := 20) (v := undef) rfl rfl (by kernel_rfl) (by kernel_rfl) (by kernel_rfl) (fun _ _ _ h => h) (calm_skip (by kernel_rfl)) ?_
    simp only [List.setIfInBounds_toArray, List.set_cons_zero, List.set_cons_succ]
    refine calm_to (i := 11) (t := 21) (v := undef) rfl rfl (by kernel_rfl) (by kernel_rfl) (by kernel_rfl) (fun _ _ _ h => h) (calm_skip (by kernel_rfl)) ?_
    simp only [List.setIfInBounds_toArray, List.set_cons_zero, List.set_cons_succ]
    refine calm_to (i := 12) (t := 22) (v := undef) rfl rfl (by kernel_rfl) (by kernel_rfl) (by kernel_rfl) (fun _ _ _ h => h) (calm_skip (by kernel_rfl)) ?_
    simp only [List.setIfInBounds_toArray, List.set_cons_zero, List.set_cons_succ]
    refine calm_to (i := 13) (t := 23) (v := .bool true) rfl rfl (by kernel_rfl) (by kernel_rfl) (by kernel_rfl) (fun _ _ _ h => h) (calm_pick (by kernel_rfl) (.tmp 15) (.const (.bool true)) (.tmp 22) rfl true rfl rfl) ?_
    simp only [List.setIfInBounds_toArray, List.set_cons_zero, List.set_cons_succ]
    refine calm_to (i := 14) (t := 24) (v := .bool true) rfl rfl (by kernel_rfl) (by kernel_rfl) (by kernel_rfl) (fun _ _ _ h => h) (calm_move (by kernel_rfl) (.tmp 23) (.inl rfl) rfl) ?_
    simp only [List.setIfInBounds_toArray, List.set_cons_zero, List.set_cons_succ]
    refine calm_to (i := 15) (t := 25) (v := undef) rfl rfl (by kernel_rfl) (by kernel_rfl) (by kernel_rfl) (fun _ _ _ h => h) (calm_skip (by kernel_rfl)) ?_
    simp only [List.setIfInBounds_toArray, List.set_cons_zero, List.set_cons_succ]
    refine calm_to (i := 16) (t := 26) (v := undef) rfl rfl (by kernel_rfl) (by kernel_rfl) (by kernel_rfl) (fun _ _ _ h => h) (calm_skip (by kernel_rfl)) ?_
    simp only [List.setIfInBounds_toArray, List.set_cons_zero, List.set_cons_succ]
    refine calm_to (i := 17) (t := 27) (v := undef) rfl rfl (by kernel_rfl) (by kernel_rfl) (by kernel_rfl) (fun _ _ _ h => h) (calm_skip (by kernel_rfl)) ?_
    simp only [List.setIfInBounds_toArray, List.set_cons_zero, List.set_cons_succ]
    refine calm_to (i := 18) (t := 28) (v := undef) rfl rfl (by kernel_rfl) (by kernel_rfl) (by kernel_rfl) (fun _ _ _ h => h) (calm_skip (by kernel_rfl)) ?_
    simp only [List.setIfInBounds_toArray, List.set_cons_zero, List.set_cons_succ]
    refine calm_to (i := 19) (t := 29) (v := undef) rfl rfl (by kernel_rfl) (by kernel_rfl) (by kernel_rfl) (fun _ _ _ h => h) (calm_skip (by kernel_rfl)) ?_
    simp only [List.setIfInBounds_toArray, List.set_cons_zero, List.set_cons_succ]
    refine calm_to (i := 20) (t := 30) (v := undef) rfl rfl (by kernel_rfl) (by kernel_rfl) (by kernel_rfl) (fun _ _ _ h => h) (calm_skip (by kernel_rfl)) ?_
    simp only [List.setIfInBounds_toArray, List.set_cons_zero, List.set_cons_succ]
    refine calm_to (i := 21) (t := 31) (v := undef) rfl rfl (by kernel_rfl) (by kernel_rfl) (by kernel_rfl) (fun _ _ _ h => h) (calm_skip (by kernel_rfl)) ?_
    simp only [List.setIfInBounds_toArray, List.set_cons_zero, List.set_cons_succ]
    refine calm_to (i := 22) (t := 32) (v := undef) rfl rfl (by kernel_rfl) (by kernel_rfl) (by kernel_rfl) (fun _ _ _ h => h) (calm_skip (by kernel_rfl)) ?_
    simp only [List.setIfInBounds_toArray, List.set_cons_zero, List.set_cons_succ]
    refine calm_to (i := 23) (t := 33) (v := undef) rfl rfl (by kernel_rfl) (by kernel_rfl) (by kernel_rfl) (fun _ _ _ h => h) (calm_skip (by kernel_rfl)) ?_
    simp only [List.setIfInBounds_toArray, List.set_cons_zero, List.set_cons_succ]
    refine calm_to (i := 24) (t := 34) (v := undef) rfl rfl (by kernel_rfl) (by kernel_rfl) (by kernel_rfl) (fun _ _ _ h => h) (calm_skip (by kernel_rfl)) ?_
    simp only [List.setIfInBounds_toArray, List.set_cons_zero, List.set_cons_succ]
    refine calm_to (i := 25) (t := 35) (v := undef) rfl rfl (by kernel_rfl) (by kernel_rfl) (by kernel_rfl) (fun _ _ _ h => h) (calm_skip (by kernel_rfl)) ?_
    simp only [List.setIfInBounds_toArray, List.set_cons_zero, List.set_cons_succ]
    refine calm_to (i := 26) (t := 36) (v := undef) rfl rfl (by kernel_rfl) (by kernel_rfl) (by kernel_rfl) (fun _ _ _ h => h) (calm_skip (by kernel_rfl)) ?_
    simp only [List.setIfInBounds_toArray, List.set_cons_zero, List.set_cons_succ]
    refine calm_to (i := 27) (t := 37) (v := undef) rfl rfl (by kernel_rfl) (by kernel_rfl) (by kernel_rfl) (fun _ _ _ h => h) (calm_skip (by kernel_rfl)) ?_
    simp only [List.setIfInBounds_toArray, List.set_cons_zero, List.set_cons_succ]
    refine calm_to (i := 28) (t := 38) (v := .bool true) rfl rfl (by kernel_rfl) (by kernel_rfl) (by kernel_rfl) (fun _ _ _ h => h) (calm_pick (by kernel_rfl) (.tmp 24) (.const (.bool true)) (.tmp 37) rfl true rfl rfl) ?_
    simp only [List.setIfInBounds_toArray, List.set_cons_zero, List.set_cons_succ]
    refine calm_done (by kernel_rfl) (fun U hU => ?_) _
    have BU := Lib.hid (below3 BB.out hU)
    clear hU
    go_wp2_with fail
    exact bodyPost_ret (results_tmp2 rfl _ _ _) rfl ⟨_, by rw [HE0.out]; rfl, BU.out⟩

theorem scheck_en (z : Int) (w : World) :
    Calls Try.prog 64 #[.agg #[.int .i64 z, .slice none 0 0]] w (RetB (.int .i64 (if 0 ≤ z ∧ z ≤ 1000 then 0 else 1)) w) := by
  have kt := Bk.new w 56 #[.int .i64 z, .slice none 0 0]
  have ba := (Below.refl w.heap.size w).alloc (Nat.le_refl _) (.cells #[.int .i64 z, .slice none 0 0] 56)
  obtain ⟨V, hV⟩ : ∃ V, w.alloc (.cells #[.int .i64 z, .slice none 0 0] 56) = V := ⟨_, rfl⟩
  rw [hV] at kt ba
  have HV := Lib.hid hV
  have BB := Lib.hid ba
  have c0 := kt.c0
  have c1 := kt.c1
  have lV := kt.lt
  have HG := Lib.hid (gate_en z V)
  generalize (if 0 ≤ z ∧ z ≤ 1000 then (0 : Int) else 1) = er at HG ⊢
  clear kt ba hV
  go_enter Try.func64, Try.ntmps64
  go_upto_region 1 with fail
  rw [HV.out]
  clear HV
  go_wp2_with fail
  refine HG.out.mono ?_
  rintro e U ⟨p, rfl, bU⟩
  have BU := Lib.hid (below3 BB.out bU)
  clear bU c0 c1 lV HG
  go_wp2_with fail
  go_ret
  exact ⟨rfl, BU.out⟩

set_option maxHeartbeats 4000000 in
theorem snew_en (z : Int) (w : World) : Calls Try.prog 47 #[.int .i64 z] w (fun e w' => ∃ v, e = .returned (.tuple #[.agg #[.int .i64 v, .slice none 0 0], .int .i64 (if 0 ≤ z ∧ z ≤ 1000 then 0 else 1)]) ∧ Below w.heap.size w w') := by
  obtain ⟨k1, k2, hb0⟩ := lies2 w #[.int .i64 0, .slice none 0 0] #[.int .i64 z, .slice none 0 0] 56 56
  obtain ⟨V, hV⟩ : ∃ V, (w.alloc (.cells #[.int .i64 0, .slice none 0 0] 56)).alloc (.cells #[.int .i64 z, .slice none 0 0] 56) = V := ⟨_, rfl⟩
  rw [hV] at k1 k2 hb0
  have HV := Lib.hid hV
  have K2 := Lib.hid k1
  have K1 := Lib.hid k2
  have BB := Lib.hid hb0
  have a0 := K1.out.c0
  have a1 := K1.out.c1
  have lg := K1.out.lt
  clear k1 k2 hb0 hV
  have HG := Lib.hid (scheck_en z V)
  by_cases hok : 0 ≤ z ∧ z ≤ 1000
  · rw [if_pos hok] at HG ⊢
    clear hok
    go_enter Try.func47, Try.ntmps47
    go_upto_region 2 with fail
    rw [HV.out]
    clear HV
    go_wp2_with fail
    refine HG.out.mono ?_
    rintro e w1 ⟨rfl, b⟩
    replace K1 := Lib.hid (K1.out.below b K1.out.lt)
    replace K2 := Lib.hid (K2.out.below b K2.out.lt)
    replace BB := Lib.hid (below3 BB.out b)
    clear b a0 a1 lg HG
    have a0 := K1.out.c0
    have a1 := K1.out.c1
    have lg := K1.out.lt
    have r0 := K2.out.c0
    have r1 := K2.out.c1
    have f0 := K2.out.frozen 0
    have f1 := K2.out.frozen 1
    have lr := K2.out.lt
    have HB := Lib.hid ((BB.out.setCell (p := ⟨w.heap.size, 0, none⟩) (Nat.le_refl _) (.int .i64 z)).setCell (p := ⟨w.heap.size, 1, none⟩) (Nat.le_refl _) (.slice none 0 0))
    go_wp2_with fail
    exact bodyPost_ret (v := .tuple #[.agg #[.int .i64 z, .slice none 0 0], .int .i64 0]) (by simp [results, Try.results47, go_sem, *]) rfl ⟨z, rfl, HB.out⟩
  · rw [if_neg hok] at HG ⊢
    clear hok
    go_enter Try.func47, Try.ntmps47
    go_upto_region 2 with fail
    rw [HV.out]
    clear HV
    go_wp2_with fail
    refine HG.out.mono ?_
    rintro e w1 ⟨rfl, b⟩
    replace K1 := Lib.hid (K1.out.below b K1.out.lt)
    replace K2 := Lib.hid (K2.out.below b K2.out.lt)
    replace BB := Lib.hid (below3 BB.out b)
    clear b a0 a1 lg HG
    have a0 := K1.out.c0
    have a1 := K1.out.c1
    have lg := K1.out.lt
    have r0 := K2.out.c0
    have r1 := K2.out.c1
    have f0 := K2.out.frozen 0
    have f1 := K2.out.frozen 1
    have lr := K2.out.lt
    have HB := Lib.hid ((BB.out.setCell (p := ⟨w.heap.size, 0, none⟩) (Nat.le_refl _) (.int .i64 0)).setCell (p := ⟨w.heap.size, 1, none⟩) (Nat.le_refl _) (.slice none 0 0))
    go_wp2_with fail
    exact bodyPost_ret (v := .tuple #[.agg #[.int .i64 0, .slice none 0 0], .int .i64 1]) (by simp [results, Try.results47, go_sem, *]) rfl ⟨0, rfl, HB.out⟩

/-- Of each number, whether it can be free. -/
theorem broken_en (z : Int) (w : World) : Calls Try.prog 46 #[.int .i64 z] w (RetB (.bool (!decide (0 ≤ z ∧ z ≤ 1000))) w) := by
  have HG := Lib.hid (snew_en z w)
  by_cases hok : 0 ≤ z ∧ z ≤ 1000
  · rw [if_pos hok] at HG
    rw [decide_eq_true hok]
    clear hok
    go_enter Try.func46, Try.ntmps46
    go_wp2_with fail
    refine HG.out.mono ?_
    rintro e U ⟨v, rfl, bU⟩
    have BU := Lib.hid bU
    have BV := Lib.hid (bU.alloc bU.size (.cells #[.int .i64 v, .slice none 0 0] 56))
    clear bU HG
    go_wp2_with fail
    go_ret
    exact ⟨rfl, BV.out⟩
  · rw [if_neg hok] at HG
    rw [decide_eq_false hok]
    clear hok
    go_enter Try.func46, Try.ntmps46
    go_wp2_with fail
    refine HG.out.mono ?_
    rintro e U ⟨v, rfl, bU⟩
    have BU := Lib.hid bU
    have BV := Lib.hid (bU.alloc bU.size (.cells #[.int .i64 v, .slice none 0 0] 56))
    clear bU HG
    go_wp2_with fail
    go_ret
    exact ⟨rfl, BV.out⟩

end Go.Proofs.Ytpfnoohcilefhaa

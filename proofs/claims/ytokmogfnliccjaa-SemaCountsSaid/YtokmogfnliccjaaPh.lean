/-
  Layer 10, the program: a semaphore's gate; Check.
-/
import Derived.Test.YtokmogfnliccjaaPg
namespace Go.Proofs.Ytokmogfnliccjaa
open Go.RowKit

theorem semOk_iff {z : Int} {l : List Int} : semOk z l ↔ (0 ≤ z ∧ z ≤ 1000) ∧ fillOk l ∧ (z ≤ 0 ∨ l.length = 0) :=
  ⟨fun ⟨a, b, c, d, e⟩ => ⟨⟨a, b⟩, ⟨c, e⟩, d⟩, fun ⟨⟨a, b⟩, ⟨c, e⟩, d⟩ => ⟨a, b, c, d, e⟩⟩

/-- A semaphore's gate, or none. -/
def GateA (z : Int) (n : Nat) (l : List Int) (w : World) (e : Ending) (w' : World) : Prop :=
  (semOk z l ∧ ∃ g A c b, e = .returned (.tuple #[.pointer (some ⟨g, 0, none⟩), .int .i64 0]) ∧ GS w' w.heap.size g z A n c b n l ∧ Below w.heap.size w w') ∨
  (¬ semOk z l ∧ e = .returned (.tuple #[.pointer none, .int .i64 1]) ∧ Below w.heap.size w w')

set_option maxRecDepth 100000 in
set_option maxHeartbeats 4000000 in
theorem pgate_any (z : Int) (A : Option Addr) (n c : Nat) (l : List Int) (w : World) (h : SemW w z A n c l) :
    Calls Try.prog 24 #[.agg #[.int .i64 z, .slice A n c]] w (GateA z n l w) := by
  obtain ⟨k1, k2, hb0⟩ := lies2 w #[.int .i64 z, .slice A n c] #[.int .i64 z, .slice none 0 0, .map none] 24 57
  have HX := Lib.hid h.x
  have LX := Lib.hid h.x.1
  obtain ⟨V, hV⟩ : ∃ V, (w.alloc (.cells #[.int .i64 z, .slice A n c] 24)).alloc (.cells #[.int .i64 z, .slice none 0 0, .map none] 57) = V := ⟨_, rfl⟩
  rw [hV] at k1 k2 hb0
  have HV := Lib.hid hV
  have K1 := Lib.hid k1
  have K2 := Lib.hid k2
  have BB := Lib.hid hb0
  have lw := k2.lt
  clear h k1 k2 hb0 hV
  go_enter Try.func24, Try.ntmps24
  go_upto_region 2 with fail
  rw [HV.out]
  clear HV
  have c10 := K1.out.c0
  have c11 := K1.out.c1
  have c20 : _ = some (Value.int .i64 z) := K2.out.cell 0
  have lw1 := K1.out.lt
  by_cases hz : 0 ≤ z ∧ z ≤ 1000
  · have HZ := Lib.hid hz
    have HM := Lib.hid (decide_eq_true hz)
    clear hz
    refine calmT_region 11 (S := fun U => Below V.heap.size V U) (by kernel_rfl) (by kernel_rfl) (Below.refl _ _).drew ?_
    refine calmT_to (i := 0) (t := 10) (v := .pointer (some ⟨w.heap.size + 1, 0, none⟩)) rfl rfl (by decide) (by kernel_rfl) (by kernel_rfl) (fun _ _ _ h => h) (calm_move (by kernel_rfl) (.tmp 4) (.inl rfl) rfl) ?_
    simp only [List.setIfInBounds_toArray, List.set_cons_zero, List.set_cons_succ]
    refine calmT_to (i := 1) (t := 11) (v := .pointer (some ⟨w.heap.size + 1, 0, none⟩)) rfl rfl (by decide) (by kernel_rfl) (by kernel_rfl) (fun _ _ _ h => h) (calm_of (by kernel_rfl) (fun U hU => by go_simp)) ?_
    simp only [List.setIfInBounds_toArray, List.set_cons_zero, List.set_cons_succ]
    refine calmT_to (i := 2) (t := 12) (v := .pointer (some ⟨w.heap.size + 1, 0, none⟩)) rfl rfl (by decide) (by kernel_rfl) (by kernel_rfl) (fun _ _ _ h => h) (calm_of (by kernel_rfl) (fun U hU => by go_simp)) ?_
    simp only [List.setIfInBounds_toArray, List.set_cons_zero, List.set_cons_succ]
    refine calmT_to (i := 3) (t := 13) (v := .bool true) rfl rfl (by decide) (by kernel_rfl) (by kernel_rfl) (fun _ _ _ h => h) (calm_call1 (by kernel_rfl) 35 (.tmp 12) #[52] rfl (enters_of Try.func35 (by kernel_rfl) rfl) (.pointer (some ⟨w.heap.size + 1, 0, none⟩)) rfl (fun U hU => (pmay_any (w.heap.size + 1) z U ((hU.cell (p := ⟨w.heap.size + 1, 0, none⟩) lw).trans c20) (Nat.lt_of_lt_of_le lw hU.size)).mono fun _ _ q => ⟨by rw [q.1, HM.out], below3 hU q.2⟩)) ?_
    simp only [List.setIfInBounds_toArray, List.set_cons_zero, List.set_cons_succ]
    refine calmT_to (i := 4) (t := 14) (v := .bool false) rfl rfl (by decide) (by kernel_rfl) (by kernel_rfl) (fun _ _ _ h => h) (calm_of (by kernel_rfl) (fun U hU => by go_simp)) ?_
    simp only [List.setIfInBounds_toArray, List.set_cons_zero, List.set_cons_succ]
    refine calmT_to (i := 5) (t := 15) (v := .bool false) rfl rfl (by decide) (by kernel_rfl) (by kernel_rfl) (fun _ _ _ h => h) (calm_move (by kernel_rfl) (.tmp 14) (.inl rfl) rfl) ?_
    simp only [List.setIfInBounds_toArray, List.set_cons_zero, List.set_cons_succ]
    refine calmT_to (i := 6) (t := 16) (v := .pointer (some ⟨w.heap.size + 1, 0, none⟩)) rfl rfl (by decide) (by kernel_rfl) (by kernel_rfl) (fun _ _ _ h => h) (calm_move (by kernel_rfl) (.tmp 4) (.inl rfl) rfl) ?_
    simp only [List.setIfInBounds_toArray, List.set_cons_zero, List.set_cons_succ]
    refine calmT_to (i := 7) (t := 17) (v := .pointer (some ⟨w.heap.size + 1, 0, none⟩)) rfl rfl (by decide) (by kernel_rfl) (by kernel_rfl) (fun _ _ _ h => h) (calm_of (by kernel_rfl) (fun U hU => by go_simp)) ?_
    simp only [List.setIfInBounds_toArray, List.set_cons_zero, List.set_cons_succ]
    refine calmT_to (i := 8) (t := 18) (v := .pointer (some ⟨w.heap.size + 1, 1, none⟩)) rfl rfl (by decide) (by kernel_rfl) (by kernel_rfl) (fun _ _ _ h => h) (calm_of (by kernel_rfl) (fun U hU => by go_simp)) ?_
    simp only [List.setIfInBounds_toArray, List.set_cons_zero, List.set_cons_succ]
    refine calmT_to (i := 9) (t := 19) (v := .pointer (some ⟨w.heap.size, 1, none⟩)) rfl rfl (by decide) (by kernel_rfl) (by kernel_rfl) (fun _ _ _ h => h) (calm_of (by kernel_rfl) (fun U hU => by go_simp)) ?_
    simp only [List.setIfInBounds_toArray, List.set_cons_zero, List.set_cons_succ]
    refine calmT_to (i := 10) (t := 20) (v := .slice A n c) rfl rfl (by decide) (by kernel_rfl) (by kernel_rfl) (fun _ _ _ h => h) (calm_of (by kernel_rfl) (fun U hU => by have q1 := (hU.cell (p := ⟨w.heap.size, 1, none⟩) lw1).trans c11; have ql := Nat.lt_of_lt_of_le lw1 hU.size; go_simp)) ?_
    simp only [List.setIfInBounds_toArray, List.set_cons_zero, List.set_cons_succ]
    refine calmT_done _ rfl rfl (by kernel_rfl) (fun U hU => ?_)
    have HXU := Lib.hid HX.out
    have KU := Lib.hid (K2.out.below hU lw)
    have BU := Lib.hid (below3 BB.out hU)
    clear hU c10 c11 c20 lw1 lw HM K1 K2 BB
    go_wp2_with fail
    refine (pfill_any w (w.heap.size + 1) z A n c l _ KU.out BU.out (Nat.le_succ _) HXU.out).mono ?_
    rintro e w1 (⟨hf, rfl, ⟨A1, c1, b1, gs⟩, bw⟩ | ⟨hf, rfl, bw⟩)
    · have HF := Lib.hid hf
      have G1 := Lib.hid gs
      have B1 := Lib.hid (BU.out.trans bw)
      clear hf gs bw KU BU
      have q0 := G1.out.c0
      have q1 := G1.out.c1
      have lq := G1.out.lt
      have hn6 : n ≤ 256 := by rw [← LX.out]; exact HF.out.1
      by_cases h0 : 0 < z
      · have t0 : decide (0 < z) = true := decide_eq_true h0
        by_cases hn : n = 0
        · have HE := Lib.hid (decide_eq_true hn)
          have HOK : Hid (semOk z l) := Lib.hid (semOk_iff.2 ⟨HZ.out, HF.out, .inr (by rw [LX.out]; exact hn)⟩)
          clear h0 hn
          go_wp2_with fail
          refine (pempty_any (w.heap.size + 1) A1 n c1 _ q1 lq (by omega)).mono ?_
          rw [HE.out]
          rintro e w2 ⟨rfl, b2⟩
          have G2 := Lib.hid (G1.out.below b2)
          have B2 := Lib.hid (below3 B1.out b2)
          clear b2 q0 q1 lq G1 B1
          go_wp2_with fail
          exact bodyPost_ret (results_tmp2 rfl _ _ _) rfl (.inl ⟨HOK.out, w.heap.size + 1, A1, c1, b1, rfl, G2.out, B2.out⟩)
        · have HE := Lib.hid (decide_eq_false hn)
          have HNO : Hid (¬ semOk z l) := Lib.hid (fun q => by have := q.2.2.2.1; have := LX.out; omega)
          clear h0 hn
          go_wp2_with fail
          refine (pempty_any (w.heap.size + 1) A1 n c1 _ q1 lq (by omega)).mono ?_
          rw [HE.out]
          rintro e w2 ⟨rfl, b2⟩
          have B2 := Lib.hid (below3 B1.out b2)
          clear b2 q0 q1 lq G1 B1
          go_wp2_with fail
          exact bodyPost_ret (results_tmp2 rfl _ _ _) rfl (.inr ⟨HNO.out, rfl, B2.out⟩)
      · have t0 : decide (0 < z) = false := decide_eq_false h0
        have HOK : Hid (semOk z l) := Lib.hid (semOk_iff.2 ⟨HZ.out, HF.out, .inl (by omega)⟩)
        clear h0
        go_wp2_with fail
        exact bodyPost_ret (results_tmp2 rfl _ _ _) rfl (.inl ⟨HOK.out, w.heap.size + 1, A1, c1, b1, rfl, G1.out, B1.out⟩)
    · have HNO : Hid (¬ semOk z l) := Lib.hid (fun q => hf (semOk_iff.1 q).2.1)
      have B1 := Lib.hid (BU.out.trans bw)
      clear hf bw KU BU
      go_wp2_with fail
      exact bodyPost_ret (results_tmp2 rfl _ _ _) rfl (.inr ⟨HNO.out, rfl, B1.out⟩)
  · have HNO : Hid (¬ semOk z l) := Lib.hid (fun q => hz (semOk_iff.1 q).1)
    have HM := Lib.hid (decide_eq_false hz)
    clear hz
    refine calm_region (S := fun U => Below V.heap.size V U) (by kernel_rfl) (Below.refl _ _).drew ?_
    refine calm_to (i := 0) (t := 10) (v := .pointer (some ⟨w.heap.size + 1, 0, none⟩)) rfl rfl (by kernel_rfl) (by kernel_rfl) (by kernel_rfl) (fun _ _ _ h => h) (calm_move (by kernel_rfl) (.tmp 4) (.inl rfl) rfl) ?_
    simp only [List.setIfInBounds_toArray, List.set_cons_zero, List.set_cons_succ]
    refine calm_to (i := 1) (t := 11) (v := .pointer (some ⟨w.heap.size + 1, 0, none⟩)) rfl rfl (by kernel_rfl) (by kernel_rfl) (by kernel_rfl) (fun _ _ _ h => h) (calm_of (by kernel_rfl) (fun U hU => by go_simp)) ?_
    simp only [List.setIfInBounds_toArray, List.set_cons_zero, List.set_cons_succ]
    refine calm_to (i := 2) (t := 12) (v := .pointer (some ⟨w.heap.size + 1, 0, none⟩)) rfl rfl (by kernel_rfl) (by kernel_rfl) (by kernel_rfl) (fun _ _ _ h => h) (calm_of (by kernel_rfl) (fun U hU => by go_simp)) ?_
    simp only [List.setIfInBounds_toArray, List.set_cons_zero, List.set_cons_succ]
    refine calm_to (i := 3) (t := 13) (v := .bool false) rfl rfl (by kernel_rfl) (by kernel_rfl) (by kernel_rfl) (fun _ _ _ h => h) (calm_call1 (by kernel_rfl) 35 (.tmp 12) #[52] rfl (enters_of Try.func35 (by kernel_rfl) rfl) (.pointer (some ⟨w.heap.size + 1, 0, none⟩)) rfl (fun U hU => (pmay_any (w.heap.size + 1) z U ((hU.cell (p := ⟨w.heap.size + 1, 0, none⟩) lw).trans c20) (Nat.lt_of_lt_of_le lw hU.size)).mono fun _ _ q => ⟨by rw [q.1, HM.out], below3 hU q.2⟩)) ?_
    simp only [List.setIfInBounds_toArray, List.set_cons_zero, List.set_cons_succ]
    refine calm_to (i := 4) (t := 14) (v := .bool true) rfl rfl (by kernel_rfl) (by kernel_rfl) (by kernel_rfl) (fun _ _ _ h => h) (calm_of (by kernel_rfl) (fun U hU => by go_simp)) ?_
    simp only [List.setIfInBounds_toArray, List.set_cons_zero, List.set_cons_succ]
    refine calm_to (i := 5) (t := 15) (v := .bool true) rfl rfl (by kernel_rfl) (by kernel_rfl) (by kernel_rfl) (fun _ _ _ h => h) (calm_move (by kernel_rfl) (.tmp 14) (.inl rfl) rfl) ?_
    simp only [List.setIfInBounds_toArray, List.set_cons_zero, List.set_cons_succ]
    refine calm_to (i := 6) (t := 16) (v := undef) rfl rfl (by kernel_rfl) (by kernel_rfl) (by kernel_rfl) (fun _ _ _ h => h) (calm_skip (by kernel_rfl)) ?_
    simp only [List.setIfInBounds_toArray, List.set_cons_zero, List.set_cons_succ]
    refine calm_to (i := 7) (t := 17) (v := undef) rfl rfl (by kernel_rfl) (by kernel_rfl) (by kernel_rfl) (fun _ _ _ h => h) (calm_skip (by kernel_rfl)) ?_
    simp only [List.setIfInBounds_toArray, List.set_cons_zero, List.set_cons_succ]
    refine calm_to (i := 8) (t := 18) (v := undef) rfl rfl (by kernel_rfl) (by kernel_rfl) (by kernel_rfl) (fun _ _ _ h => h) (calm_skip (by kernel_rfl)) ?_
    simp only [List.setIfInBounds_toArray, List.set_cons_zero, List.set_cons_succ]
    refine calm_to (i := 9) (t := 19) (v := undef) rfl rfl (by kernel_rfl) (by kernel_rfl) (by kernel_rfl) (fun _ _ _ h => h) (calm_skip (by kernel_rfl)) ?_
    simp only [List.setIfInBounds_toArray, List.set_cons_zero, List.set_cons_succ]
    refine calm_to (i := 10) (t := 20) (v := undef) rfl rfl (by kernel_rfl) (by kernel_rfl) (by kernel_rfl) (fun _ _ _ h => h) (calm_skip (by kernel_rfl)) ?_
    simp only [List.setIfInBounds_toArray, List.set_cons_zero, List.set_cons_succ]
    refine calm_to (i := 11) (t := 21) (v := undef) rfl rfl (by kernel_rfl) (by kernel_rfl) (by kernel_rfl) (fun _ _ _ h => h) (calm_skip (by kernel_rfl)) ?_
    simp only [List.setIfInBounds_toArray, List.set_cons_zero, List.set_cons_succ]
    refine calm_to (i := 12) (t := 22) (v := undef) rfl rfl (by kernel_rfl) (by kernel_rfl) (by kernel_rfl) (fun _ _ _ h => h) (calm_skip (by kernel_rfl)) ?_
    simp only [List.setIfInBounds_toArray, List.set_cons_zero, List.set_cons_succ]
    refine calm_to (i := 13) (t := 23) (v := .bool true) rfl rfl (by kernel_rfl) (by kernel_rfl) (by kernel_rfl) (fun _ _ _ h => h) (calm_pick (by kernel_rfl) (.tmp 15) (.const (.bool true)) (.tmp 22) rfl true rfl rfl) ?_
    simp only [List.setIfInBounds_toArray, List.set_cons_zero, List.set_cons_succ]
    refine calm_to (i := 14) (t := 24) (v := .bool true) rfl rfl (by kernel_rfl) (by kernel_rfl) (by kernel_rfl) (fun _ _ _ h => h) (calm_move (by kernel_rfl) (.tmp 23) (.inl rfl) rfl) ?_
    simp only [List.setIfInBounds_toArray, List.set_cons_zero, List.set_cons_succ]
    refine calm_to (i := 15) (t := 25) (v := undef) rfl rfl (by kernel_rfl) (by kernel_rfl) (by kernel_rfl) (fun _ _ _ h => h) (calm_skip (by kernel_rfl)) ?_
    simp only [List.setIfInBounds_toArray, List.set_cons_zero, List.set_cons_succ]
    refine calm_to (i := 16) (t := 26) (v := undef) rfl rfl (by kernel_rfl) (by kernel_rfl) (by kernel_rfl) (fun _ _ _ h => h) (calm_skip (by kernel_rfl)) ?_
    simp only [List.setIfInBounds_toArray, List.set_cons_zero, List.set_cons_succ]
    refine calm_to (i := 17) (t := 27) (v := undef) rfl rfl (by kernel_rfl) (by kernel_rfl) (by kernel_rfl) (fun _ _ _ h => h) (calm_skip (by kernel_rfl)) ?_
    simp only [List.setIfInBounds_toArray, List.set_cons_zero, List.set_cons_succ]
    refine calm_to (i := 18) (t := 28) (v := undef) rfl rfl (by kernel_rfl) (by kernel_rfl) (by kernel_rfl) (fun _ _ _ h => h) (calm_skip (by kernel_rfl)) ?_
    simp only [List.setIfInBounds_toArray, List.set_cons_zero, List.set_cons_succ]
    refine calm_to (i := 19) (t := 29) (v := undef) rfl rfl (by kernel_rfl) (by kernel_rfl) (by kernel_rfl) (fun _ _ _ h => h) (calm_skip (by kernel_rfl)) ?_
    simp only [List.setIfInBounds_toArray, List.set_cons_zero, List.set_cons_succ]
    refine calm_to (i := 20) (t := 30) (v := undef) rfl rfl (by kernel_rfl) (by kernel_rfl) (by kernel_rfl) (fun _ _ _ h => h) (calm_skip (by kernel_rfl)) ?_
    simp only [List.setIfInBounds_toArray, List.set_cons_zero, List.set_cons_succ]
    refine calm_to (i := 21) (t := 31) (v := undef) rfl rfl (by kernel_rfl) (by kernel_rfl) (by kernel_rfl) (fun _ _ _ h => h) (calm_skip (by kernel_rfl)) ?_
    simp only [List.setIfInBounds_toArray, List.set_cons_zero, List.set_cons_succ]
    refine calm_to (i := 22) (t := 32) (v := undef) rfl rfl (by kernel_rfl) (by kernel_rfl) (by kernel_rfl) (fun _ _ _ h => h) (calm_skip (by kernel_rfl)) ?_
    simp only [List.setIfInBounds_toArray, List.set_cons_zero, List.set_cons_succ]
    refine calm_to (i := 23) (t := 33) (v := undef) rfl rfl (by kernel_rfl) (by kernel_rfl) (by kernel_rfl) (fun _ _ _ h => h) (calm_skip (by kernel_rfl)) ?_
    simp only [List.setIfInBounds_toArray, List.set_cons_zero, List.set_cons_succ]
    refine calm_to (i := 24) (t := 34) (v := undef) rfl rfl (by kernel_rfl) (by kernel_rfl) (by kernel_rfl) (fun _ _ _ h => h) (calm_skip (by kernel_rfl)) ?_
    simp only [List.setIfInBounds_toArray, List.set_cons_zero, List.set_cons_succ]
    refine calm_to (i := 25) (t := 35) (v := undef) rfl rfl (by kernel_rfl) (by kernel_rfl) (by kernel_rfl) (fun _ _ _ h => h) (calm_skip (by kernel_rfl)) ?_
    simp only [List.setIfInBounds_toArray, List.set_cons_zero, List.set_cons_succ]
    refine calm_to (i := 26) (t := 36) (v := undef) rfl rfl (by kernel_rfl) (by kernel_rfl) (by kernel_rfl) (fun _ _ _ h => h) (calm_skip (by kernel_rfl)) ?_
    simp only [List.setIfInBounds_toArray, List.set_cons_zero, List.set_cons_succ]
    refine calm_to (i := 27) (t := 37) (v := undef) rfl rfl (by kernel_rfl) (by kernel_rfl) (by kernel_rfl) (fun _ _ _ h => h) (calm_skip (by kernel_rfl)) ?_
    simp only [List.setIfInBounds_toArray, List.set_cons_zero, List.set_cons_succ]
    refine calm_to (i := 28) (t := 38) (v := .bool true) rfl rfl (by kernel_rfl) (by kernel_rfl) (by kernel_rfl) (fun _ _ _ h => h) (calm_pick (by kernel_rfl) (.tmp 24) (.const (.bool true)) (.tmp 37) rfl true rfl rfl) ?_
    simp only [List.setIfInBounds_toArray, List.set_cons_zero, List.set_cons_succ]
    refine calm_done (by kernel_rfl) (fun U hU => ?_) _
    have BU := Lib.hid (below3 BB.out hU)
    clear hU c10 c11 c20 lw1 lw HM K1 K2 BB
    go_wp2_with fail
    exact bodyPost_ret (results_tmp2 rfl _ _ _) rfl (.inr ⟨HNO.out, rfl, BU.out⟩)

theorem pcheck_any (z : Int) (A : Option Addr) (n c : Nat) (l : List Int) (w : World) (h : SemW w z A n c l) :
    Calls Try.prog 18 #[.agg #[.int .i64 z, .slice A n c]] w (RetB (.int .i64 (if semOk z l then 0 else 1)) w) := by
  have k0 := Bk.new w 24 #[.int .i64 z, .slice A n c]
  have b0 := (Below.refl w.heap.size w).alloc (Nat.le_refl _) (.cells #[.int .i64 z, .slice A n c] 24)
  have HX := Lib.hid (h.below b0)
  have BB := Lib.hid b0
  have a0 := k0.c0
  have a1 := k0.c1
  obtain ⟨r, hr⟩ : ∃ r : Int, (if semOk z l then (0 : Int) else 1) = r := ⟨_, rfl⟩
  rw [hr]
  have HR := Lib.hid hr
  clear h k0 b0 hr
  go_enter Try.func18, Try.ntmps18
  go_wp2_with fail
  refine (pgate_any z A n c l _ HX.out).mono ?_
  rintro e w1 (⟨hok, g, A1, c1, b1, rfl, gs, bw⟩ | ⟨hok, rfl, bw⟩)
  · have HB := Lib.hid (below3 BB.out bw)
    have HE := Lib.hid (HR.out.symm.trans (if_pos hok))
    clear hok gs bw a0 a1
    go_wp2_with fail
    go_ret
    exact ⟨by rw [HE.out]; rfl, HB.out⟩
  · have HB := Lib.hid (below3 BB.out bw)
    have HE := Lib.hid (HR.out.symm.trans (if_neg hok))
    clear hok bw a0 a1
    go_wp2_with fail
    go_ret
    exact ⟨by rw [HE.out]; rfl, HB.out⟩

end Go.Proofs.Ytokmogfnliccjaa

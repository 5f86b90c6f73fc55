/-
  Layer 8, the program's small functions: which timer comes ahead, whether one may be, the place above another.
-/
import Derived.Test.YtjamoafihmcmeaaTm
import Derived.Sort.Grow
namespace Go.Proofs.Ytjamoafihmcmeaa
open Go.RowKit

/-- Nothing that lay has changed; blocks have come, and draws. -/
def Grew (w w' : World) : Prop := ∃ q os, w' = Go.Sort.grow (w.drewN q) os
theorem Grew.refl (w : World) : Grew w w := ⟨0, #[], by rw [Go.Sort.grow_empty]; rfl⟩
theorem Grew.trans {a b c : World} (h : Grew a b) (k : Grew b c) : Grew a c := by
  obtain ⟨q, os, rfl⟩ := h
  obtain ⟨p, os', rfl⟩ := k
  refine ⟨q + p, os ++ os', ?_⟩
  simp [Go.Sort.grow, World.drewN, Array.append_assoc, Nat.add_assoc]
theorem Grew.alloc {a b : World} (h : Grew a b) (o : Obj) : Grew a (b.alloc o) := h.trans ⟨0, #[o], by rw [Go.Sort.alloc_eq_grow]; rfl⟩
theorem Grew.drew {a b : World} (h : Grew a b) : Grew a b.drew := h.trans ⟨1, #[], by rw [Go.Sort.grow_empty]; rfl⟩
theorem Grew.below {w w' : World} (h : Grew w w') : Below w.heap.size w w' := by
  obtain ⟨q, os, rfl⟩ := h
  refine ⟨rfl, rfl, rfl, by simp [Go.Sort.grow, World.drewN], fun k hk => ?_⟩
  exact Go.Sort.heap_grow_old (w.drewN q) os hk

def cmpZ (a b : Int) : Int := if a < b then -1 else if b < a then 1 else 0
theorem isnan_any (a : Int) (w : World) : Calls Try.prog 60 #[.int .i64 a] w (fun e w' => e = .returned (.bool false) ∧ w' = w) := by
  have t1 : (a != a) = false := by simp
  go_enter Try.func60, Try.ntmps60
  go_wp2
  go_ret
  exact ⟨rfl, rfl⟩
theorem compare_any (a b : Int) (w : World) : Calls Try.prog 55 #[.int .i64 a, .int .i64 b] w (fun e w' => e = .returned (.int .i64 (cmpZ a b)) ∧ w' = w) := by
  have H := Lib.hid (fun x w => isnan_any x w)
  by_cases h1 : a < b
  · have e : cmpZ a b = -1 := if_pos h1
    rw [e]
    have t1 : decide (a < b) = true := decide_eq_true h1
    clear e h1
    go_enter Try.func55, Try.ntmps55
    go_wp2_with (go_at_call 60; refine (H.out _ _).mono ?_; rintro e w' ⟨rfl, rfl⟩)
    go_ret
    exact ⟨rfl, rfl⟩
  · have t1 : decide (a < b) = false := decide_eq_false h1
    by_cases h2 : b < a
    · have e : cmpZ a b = 1 := by rw [cmpZ, if_neg h1, if_pos h2]
      rw [e]
      have t2 : decide (b < a) = true := decide_eq_true h2
      clear e h1 h2
      go_enter Try.func55, Try.ntmps55
      go_wp2_with (go_at_call 60; refine (H.out _ _).mono ?_; rintro e w' ⟨rfl, rfl⟩)
      go_ret
      exact ⟨rfl, rfl⟩
    · have e : cmpZ a b = 0 := by rw [cmpZ, if_neg h1, if_neg h2]
      rw [e]
      have t2 : decide (b < a) = false := decide_eq_false h2
      clear e h1 h2
      go_enter Try.func55, Try.ntmps55
      go_wp2_with (go_at_call 60; refine (H.out _ _).mono ?_; rintro e w' ⟨rfl, rfl⟩)
      go_ret
      exact ⟨rfl, rfl⟩

def orZ (x y : Int) : Int := if x = 0 then y else x
theorem or_any (x y : Int) (g : Nat) (w : World) (c0 : w.cell? ⟨g, 0, none⟩ = some (.int .i64 x)) (c1 : w.cell? ⟨g, 1, none⟩ = some (.int .i64 y)) :
    Calls Try.prog 54 #[.slice (some ⟨g, 0, none⟩) 2 2] w (fun e w' => e = .returned (.int .i64 (orZ x y)) ∧ w' = w) := by
  by_cases h1 : x = 0
  · subst h1
    rw [show orZ 0 y = y from if_pos rfl]
    by_cases h2 : y = 0
    · subst h2
      go_enter Try.func54, Try.ntmps54
      go_wp2
      refine wp_loop_rounds 3 ?_
      rw [rounds_succ]
      go_wp2
      rw [rounds_succ]
      go_wp2
      rw [rounds_succ]
      go_wp2
      go_ret
      exact ⟨rfl, rfl⟩
    · have t2 : (y != 0) = true := by simpa using h2
      clear h2
      go_enter Try.func54, Try.ntmps54
      go_wp2
      refine wp_loop_rounds 2 ?_
      rw [rounds_succ]
      go_wp2
      rw [rounds_succ]
      go_wp2
      go_ret
      exact ⟨rfl, rfl⟩
  · rw [show orZ x y = x from if_neg h1]
    have t2 : (x != 0) = true := by simpa using h1
    clear h1
    go_enter Try.func54, Try.ntmps54
    go_wp2
    refine wp_loop_rounds 1 ?_
    rw [rounds_succ]
    go_wp2
    go_ret
    exact ⟨rfl, rfl⟩

def orderZ (a b : Tm) : Int := orZ (cmpZ a.1 b.1) (cmpZ a.2 b.2)
theorem orderZ_lt (a b : Tm) : orderZ a b < 0 ↔ lessT a b := by
  unfold orderZ orZ cmpZ lessT
  split <;> split <;> (try split) <;> (try split) <;> omega
theorem horder_any (a1 a2 b1 b2 : Int) (w : World) : Calls Try.prog 46 #[.agg #[.int .i64 a1, .int .i64 a2], .agg #[.int .i64 b1, .int .i64 b2]] w (fun e w' => e = .returned (.int .i64 (orderZ (a1, a2) (b1, b2))) ∧ Grew w w') := by
  obtain ⟨k0, k1⟩ := boxes2 w #[.int .i64 a1, .int .i64 a2] #[.int .i64 b1, .int .i64 b2] 24 24
  have G0 : Grew w ((w.alloc (.cells #[.int .i64 a1, .int .i64 a2] 24)).alloc (.cells #[.int .i64 b1, .int .i64 b2] 24)) := ((Grew.refl w).alloc _).alloc _
  obtain ⟨W, hW⟩ : ∃ W, ((w.alloc (.cells #[.int .i64 a1, .int .i64 a2] 24)).alloc (.cells #[.int .i64 b1, .int .i64 b2] 24)) = W := ⟨_, rfl⟩
  rw [hW] at k0 k1 G0
  have HW := Lib.hid hW
  obtain ⟨x, hx⟩ : ∃ x, cmpZ a1 b1 = x := ⟨_, rfl⟩
  obtain ⟨y, hy⟩ : ∃ y, cmpZ a2 b2 = y := ⟨_, rfl⟩
  have HE := Lib.hid (show orderZ (a1, a2) (b1, b2) = orZ x y by rw [← hx, ← hy]; rfl)
  have HA := Lib.hid (fun w => hx ▸ compare_any a1 b1 w)
  have HB := Lib.hid (fun w => hy ▸ compare_any a2 b2 w)
  have G0 := Lib.hid G0
  have K0 := Lib.hid k0
  have K1 := Lib.hid k1
  clear hx hy hW k0 k1
  rw [HE.out]
  clear HE
  have c0 : (W.drew).cell? _ = some (Value.int .i64 a1) := K0.out.drew.cell 0
  have c1 : (W.drew).cell? _ = some (Value.int .i64 a2) := K0.out.drew.cell 1
  have d0 : (W.drew).cell? _ = some (Value.int .i64 b1) := K1.out.drew.cell 0
  have d1 : (W.drew).cell? _ = some (Value.int .i64 b2) := K1.out.drew.cell 1
  go_enter Try.func46, Try.ntmps46
  go_upto_region 1 with fail
  rw [HW.out]
  clear HW
  refine calmT_region (S := fun U => Below W.heap.size W U ∧ Grew w U) 10 (by kernel_rfl) (by kernel_rfl) ⟨(Below.refl _ _).drew, G0.out.drew⟩ ?_
  refine calmT_to (i := 0) (t := 5) (v := .pointer (some ⟨w.heap.size, 0, none⟩)) rfl rfl (by decide) (by kernel_rfl) (by kernel_rfl) (fun _ _ _ h => h) (calm_of (by kernel_rfl) (fun U hU => by go_simp)) ?_
  simp only [List.setIfInBounds_toArray, List.set_cons_zero, List.set_cons_succ]
  refine calmT_to (i := 1) (t := 6) (v := .int .i64 a1) rfl rfl (by decide) (by kernel_rfl) (by kernel_rfl) (fun _ _ _ h => h) (calm_of (by kernel_rfl) (fun U ⟨hU, _⟩ => by have q : _ = some (Value.int .i64 a1) := (K0.out.below hU K0.out.lt).cell 0; go_simp)) ?_
  simp only [List.setIfInBounds_toArray, List.set_cons_zero, List.set_cons_succ]
  refine calmT_to (i := 2) (t := 7) (v := .pointer (some ⟨w.heap.size + 1, 0, none⟩)) rfl rfl (by decide) (by kernel_rfl) (by kernel_rfl) (fun _ _ _ h => h) (calm_of (by kernel_rfl) (fun U hU => by go_simp)) ?_
  simp only [List.setIfInBounds_toArray, List.set_cons_zero, List.set_cons_succ]
  refine calmT_to (i := 3) (t := 8) (v := .int .i64 b1) rfl rfl (by decide) (by kernel_rfl) (by kernel_rfl) (fun _ _ _ h => h) (calm_of (by kernel_rfl) (fun U ⟨hU, _⟩ => by have q : _ = some (Value.int .i64 b1) := (K1.out.below hU K1.out.lt).cell 0; go_simp)) ?_
  simp only [List.setIfInBounds_toArray, List.set_cons_zero, List.set_cons_succ]
  refine calmT_to (i := 4) (t := 9) (v := .int .i64 x) rfl rfl (by decide) (by kernel_rfl) (by kernel_rfl) (fun _ _ _ h => h) (calm_call2 (by kernel_rfl) 55 (.tmp 6) (.tmp 8) #[2, 2] rfl (enters_of Try.func55 (by kernel_rfl) rfl) (.int .i64 a1) (.int .i64 b1) rfl rfl (fun U hU => (HA.out U).mono fun _ _ q => ⟨q.1, q.2 ▸ hU⟩)) ?_
  simp only [List.setIfInBounds_toArray, List.set_cons_zero, List.set_cons_succ]
  refine calmT_to (i := 5) (t := 10) (v := .pointer (some ⟨w.heap.size, 1, none⟩)) rfl rfl (by decide) (by kernel_rfl) (by kernel_rfl) (fun _ _ _ h => h) (calm_of (by kernel_rfl) (fun U hU => by go_simp)) ?_
  simp only [List.setIfInBounds_toArray, List.set_cons_zero, List.set_cons_succ]
  refine calmT_to (i := 6) (t := 11) (v := .int .i64 a2) rfl rfl (by decide) (by kernel_rfl) (by kernel_rfl) (fun _ _ _ h => h) (calm_of (by kernel_rfl) (fun U ⟨hU, _⟩ => by have q : _ = some (Value.int .i64 a2) := (K0.out.below hU K0.out.lt).cell 1; go_simp)) ?_
  simp only [List.setIfInBounds_toArray, List.set_cons_zero, List.set_cons_succ]
  refine calmT_to (i := 7) (t := 12) (v := .pointer (some ⟨w.heap.size + 1, 1, none⟩)) rfl rfl (by decide) (by kernel_rfl) (by kernel_rfl) (fun _ _ _ h => h) (calm_of (by kernel_rfl) (fun U hU => by go_simp)) ?_
  simp only [List.setIfInBounds_toArray, List.set_cons_zero, List.set_cons_succ]
  refine calmT_to (i := 8) (t := 13) (v := .int .i64 b2) rfl rfl (by decide) (by kernel_rfl) (by kernel_rfl) (fun _ _ _ h => h) (calm_of (by kernel_rfl) (fun U ⟨hU, _⟩ => by have q : _ = some (Value.int .i64 b2) := (K1.out.below hU K1.out.lt).cell 1; go_simp)) ?_
  simp only [List.setIfInBounds_toArray, List.set_cons_zero, List.set_cons_succ]
  refine calmT_to (i := 9) (t := 14) (v := .int .i64 y) rfl rfl (by decide) (by kernel_rfl) (by kernel_rfl) (fun _ _ _ h => h) (calm_call2 (by kernel_rfl) 55 (.tmp 11) (.tmp 13) #[2, 2] rfl (enters_of Try.func55 (by kernel_rfl) rfl) (.int .i64 a2) (.int .i64 b2) rfl rfl (fun U hU => (HB.out U).mono fun _ _ q => ⟨q.1, q.2 ▸ hU⟩)) ?_
  simp only [List.setIfInBounds_toArray, List.set_cons_zero, List.set_cons_succ]
  refine calmT_done _ rfl rfl (by kernel_rfl) (fun U hU => ?_)
  have GU := Lib.hid hU.2
  clear hU
  have cx : _ = some (Value.int .i64 x) := (Bk.new U 3 #[.int .i64 x, .int .i64 y]).cell 0
  have cy : _ = some (Value.int .i64 y) := (Bk.new U 3 #[.int .i64 x, .int .i64 y]).cell 1
  have HO := Lib.hid (or_any x y U.heap.size _ cx cy)
  clear cx cy
  go_wp2_with fail
  refine HO.out.mono ?_
  rintro e w1 ⟨rfl, rfl⟩
  go_wp2
  go_ret
  exact ⟨rfl, GU.out.alloc _⟩

theorem ahead_any (a1 a2 b1 b2 : Int) (w : World) : Calls Try.prog 47 #[.agg #[.int .i64 a1, .int .i64 a2], .agg #[.int .i64 b1, .int .i64 b2]] w (RetB (.bool (decide (lessT (a1, a2) (b1, b2)))) w) := by
  obtain ⟨k0, k1⟩ := boxes2 w #[.int .i64 a1, .int .i64 a2] #[.int .i64 b1, .int .i64 b2] 24 24
  have BL := Lib.hid (two_boxes w #[.int .i64 a1, .int .i64 a2] #[.int .i64 b1, .int .i64 b2] 24 24)
  have c0 : _ = some (Value.int .i64 a1) := k0.cell 0
  have c1 : _ = some (Value.int .i64 a2) := k0.cell 1
  have d0 : _ = some (Value.int .i64 b1) := k1.cell 0
  have d1 : _ = some (Value.int .i64 b2) := k1.cell 1
  clear k0 k1
  have hlt := orderZ_lt (a1, a2) (b1, b2)
  obtain ⟨z, hz⟩ : ∃ z, orderZ (a1, a2) (b1, b2) = z := ⟨_, rfl⟩
  rw [hz] at hlt
  have HO := Lib.hid (fun w => hz ▸ horder_any a1 a2 b1 b2 w)
  have HE := Lib.hid (show decide (z < 0) = decide (lessT (a1, a2) (b1, b2)) from by rw [decide_eq_decide]; exact hlt)
  clear hz hlt
  go_enter Try.func47, Try.ntmps47
  go_wp2_with fail
  refine (HO.out _).mono ?_
  rintro e w1 ⟨rfl, g1⟩
  have BW := Lib.hid (below3 BL.out g1.below)
  clear g1
  go_wp2
  go_ret
  exact ⟨by rw [HE.out]; rfl, BW.out⟩

theorem above_any (i : Nat) (hi : 0 < i) (hb : i < 2000) (w : World) : Calls Try.prog 48 #[.int .i64 (i : Int)] w (RetB (.int .i64 (((i - 1) / 4 : Nat) : Int)) w) := by
  have HE := Lib.hid (show ((i : Int) - 1) / 4 = (((i - 1) / 4 : Nat) : Int) by omega)
  go_enter Try.func48, Try.ntmps48
  go_wp2
  go_ret
  exact RetB.of (by rw [HE.out]; rfl) (Below.refl _ _)

def timeZ (a : Int) : Bool := decide (0 ≤ a ∧ a ≤ 1125899906842624)
theorem istime_any (a : Int) (w : World) : Calls Try.prog 42 #[.int .i64 a] w (fun e w' => e = .returned (.bool (timeZ a)) ∧ w' = w) := by
  have hw : ¬ 0 ≤ a ∨ (0 ≤ a ∧ ¬ a ≤ 1125899906842624) ∨ (0 ≤ a ∧ a ≤ 1125899906842624) := by omega
  rcases hw with h | ⟨h, h2⟩ | ⟨h, h2⟩
  case' inl => have e : timeZ a = false := decide_eq_false (fun q => h q.1)
  case' inr.inl => have e : timeZ a = false := decide_eq_false (fun q => h2 q.2)
  case' inr.inr => have e : timeZ a = true := decide_eq_true ⟨h, h2⟩
  case' inl => have t1 : decide (0 ≤ a) = false := decide_eq_false h
  case' inr.inl => have t1 : decide (0 ≤ a) = true := decide_eq_true h
  case' inr.inr => have t1 : decide (0 ≤ a) = true := decide_eq_true h
  case' inr.inl => have t2 : decide (a ≤ 1125899906842624) = false := decide_eq_false h2
  case' inr.inr => have t2 : decide (a ≤ 1125899906842624) = true := decide_eq_true h2
  all_goals
    rw [e]
    clear e h
    try clear h2
    go_enter Try.func42, Try.ntmps42
    go_wp2
    go_ret
    exact ⟨rfl, rfl⟩
theorem pmay_any (a1 a2 : Int) (w : World) : Calls Try.prog 31 #[.agg #[.int .i64 a1, .int .i64 a2]] w (RetB (.bool (decide (mayT (a1, a2)))) w) := by
  have k0 := Bk.new w 24 #[.int .i64 a1, .int .i64 a2]
  have BL := Lib.hid ((Below.refl w.heap.size w).alloc (Nat.le_refl _) (.cells #[.int .i64 a1, .int .i64 a2] 24))
  have c0 : _ = some (Value.int .i64 a1) := k0.cell 0
  have c1 : _ = some (Value.int .i64 a2) := k0.cell 1
  clear k0
  have hw : timeZ a1 = false ∨ (timeZ a1 = true ∧ ¬ 0 ≤ a2) ∨ (timeZ a1 = true ∧ 0 ≤ a2) := by
    cases timeZ a1 <;> simp <;> omega
  have HI := Lib.hid (fun w => istime_any a1 w)
  rcases hw with h | ⟨h, h2⟩ | ⟨h, h2⟩
  case' inl => have e : decide (mayT (a1, a2)) = false := decide_eq_false (fun q => of_decide_eq_false h ⟨q.1, q.2.1⟩)
  case' inr.inl => have e : decide (mayT (a1, a2)) = false := decide_eq_false (fun q => h2 q.2.2)
  case' inr.inr => have e : decide (mayT (a1, a2)) = true := decide_eq_true ⟨(of_decide_eq_true h).1, (of_decide_eq_true h).2, h2⟩
  case' inr.inl => have t2 : decide (0 ≤ a2) = false := decide_eq_false h2
  case' inr.inr => have t2 : decide (0 ≤ a2) = true := decide_eq_true h2
  all_goals
    rw [e]
    rw [h] at HI
    clear e h
    try clear h2
    go_enter Try.func31, Try.ntmps31
    go_wp2_with (go_at_call 42; refine (HI.out _).mono ?_; rintro e w' ⟨rfl, rfl⟩)
    go_ret
    exact ⟨rfl, BL.out⟩

end Go.Proofs.Ytjamoafihmcmeaa

/-
  The walk of the law CellBack: for every input it comes to true; nothing that was there has changed.
-/
import Derived.Test.YtmmilceemnggiaaCSwap
namespace Go.Proofs.Ytmmilceemnggiaa
open Go.RowKit

/-- A comparison that only reads: seen from without, nothing that was there has changed. -/
def SameB (b : Bool) (w : World) (e : Ending) (w' : World) : Prop := e = .returned (.bool b) ∧ Below w.heap.size w w'

theorem SameAns.below {b : Bool} {w : World} {e : Ending} {w' : World} (h : SameAns b w e w') : SameB b w e w' := by
  obtain ⟨he, k, rfl⟩ := h
  exact ⟨he, rfl, rfl, rfl, Nat.le_refl _, fun _ _ => rfl⟩

theorem same_b (A A' : Option Addr) (n c n' c' : Nat) (xs ys : List Int) (w : World) (hx : Ints w A n xs) (hy : Ints w A' n' ys) :
    Calls Try.prog 16 #[.slice A n c, .slice A' n' c'] w (SameB (sameB xs ys) w) := (same_any A A' n c n' c' xs ys w hx hy).mono fun _ _ h => h.below

theorem rsame_b (A A' : Option Addr) (n c n' c' : Nat) (xs ys : List Int) (w : World) (hx : Ints w A n xs) (hy : Ints w A' n' ys) :
    Calls Try.prog 13 #[.slice A n c, .slice A' n' c'] w (SameB (sameB xs ys) w) := (rsame_any A A' n c n' c' xs ys w hx hy).mono fun _ _ h => h.below

theorem sameB_self (xs : List Int) : sameB xs xs = true := sameB_all rfl rfl (fun _ _ => rfl)

section
variable (A : Option Addr) (n c : Nat) (zs : List Int) (p t a b : Int) (w : World)

set_option maxHeartbeats 400000 in
theorem back_big (h : 300 < n) (hm : n ≤ 9223372036854775807) :
    Calls Try.prog 6 #[.slice A n c, .int .i64 p, .int .i64 t, .int .i64 a, .int .i64 b] w (TrueAns w) := by
  go_enter Try.func6, Try.ntmps6
  go_wp2_with fail
  refine (live_any _).mono ?_
  rintro e w1 ⟨rfl, hb1⟩
  have HB1 := Lib.hid hb1
  clear hb1
  go_wp2
  go_ret
  exact ⟨rfl, HB1.out⟩

set_option maxHeartbeats 400000 in
theorem back_low (hx : Ints w A n zs) (h : n ≤ 300) (hp : p < 0) (fa : Fit a) :
    Calls Try.prog 6 #[.slice A n c, .int .i64 p, .int .i64 t, .int .i64 a, .int .i64 b] w (TrueAns w) := by
  have e1 : ∀ k a b, doo zs k p a b = ([], 0, 1) := fun k a b => by rw [doo_acc (by have := hx.1; omega), acc_out (by have := hx.1; omega)]
  have E := Lib.hid e1
  have HX := Lib.hid hx
  have FA := Lib.hid fa
  have d1 : decide (p < 0) = true := by simpa using hp
  clear e1 hx fa
  go_enter Try.func6, Try.ntmps6
  go_wp2_with fail
  refine (live_any _).mono ?_
  rintro e w1 ⟨rfl, hb1⟩
  have HB1 := Lib.hid hb1
  clear hb1
  go_wp2_with fail
  refine (load_any _ _ _ zs _ _ ((HX.out).below HB1.out)).mono ?_
  rw [E.out]
  rintro e w2 ⟨rfl, hb2⟩
  have HB2 := Lib.hid hb2
  clear hb2
  simp only []
  go_wp2_with fail
  refine (store_any _ _ _ zs _ _ _ (((HX.out).below HB1.out).below HB2.out) FA.out).mono ?_
  rw [E.out]
  rintro e w3 ⟨A3, c3, rfl, ho3, hb3⟩
  have HB3 := Lib.hid hb3
  have HO3 := Lib.hid ho3
  clear hb3 ho3
  simp only []
  go_wp2
  go_ret
  exact ⟨rfl, below3 (below3 (HB1.out) HB2.out) HB3.out⟩

set_option maxHeartbeats 400000 in
theorem back_high (hx : Ints w A n zs) (h : n ≤ 300) (hp : (n : Int) ≤ p) (fa : Fit a) :
    Calls Try.prog 6 #[.slice A n c, .int .i64 p, .int .i64 t, .int .i64 a, .int .i64 b] w (TrueAns w) := by
  have e1 : ∀ k a b, doo zs k p a b = ([], 0, 1) := fun k a b => by rw [doo_acc (by have := hx.1; omega), acc_out (by have := hx.1; omega)]
  have E := Lib.hid e1
  have HX := Lib.hid hx
  have FA := Lib.hid fa
  have d1 : decide (p < 0) = false := by simp; omega
  have d2 : decide ((n : Int) ≤ p) = true := by simpa using hp
  clear e1 hx fa
  go_enter Try.func6, Try.ntmps6
  go_wp2_with fail
  refine (live_any _).mono ?_
  rintro e w1 ⟨rfl, hb1⟩
  have HB1 := Lib.hid hb1
  clear hb1
  go_wp2_with fail
  refine (load_any _ _ _ zs _ _ ((HX.out).below HB1.out)).mono ?_
  rw [E.out]
  rintro e w2 ⟨rfl, hb2⟩
  have HB2 := Lib.hid hb2
  clear hb2
  simp only []
  go_wp2_with fail
  refine (store_any _ _ _ zs _ _ _ (((HX.out).below HB1.out).below HB2.out) FA.out).mono ?_
  rw [E.out]
  rintro e w3 ⟨A3, c3, rfl, ho3, hb3⟩
  have HB3 := Lib.hid hb3
  have HO3 := Lib.hid ho3
  clear hb3 ho3
  simp only []
  go_wp2
  go_ret
  exact ⟨rfl, below3 (below3 (HB1.out) HB2.out) HB3.out⟩

set_option maxHeartbeats 400000 in
theorem back_two_out (hx : Ints w A n zs) (h : n ≤ 300) (j : Nat) (hj : j < n) (ht : t < 0 ∨ (n : Int) ≤ t) (fa : Fit a) (fb : Fit b) :
    Calls Try.prog 6 #[.slice A n c, .int .i64 j, .int .i64 t, .int .i64 a, .int .i64 b] w (TrueAns w) := by
  have hl := hx.1
  have e1 : doo zs 0 j 0 0 = (zs, nth zs j, 0) := by rw [doo_acc (by omega), acc_load (by omega)]
  have e2 : doo zs 1 j a 0 = (zs.set j a, 0, 0) := by rw [doo_acc (by omega), acc_store (by omega)]
  have hl2 : (zs.set j a).length = n := by simpa using hl
  have e3 : doo (zs.set j a) 0 j 0 0 = (zs.set j a, a, 0) := by rw [doo_acc (by omega), acc_load (by omega), nth_set (by omega)]
  have e4 : doo (zs.set j a) 1 j (nth zs j) 0 = (zs, 0, 0) := by rw [doo_acc (by omega), acc_store (by omega), List.set_set, set_same (by omega)]
  have e5 : doo (zs.set j a) 1 t b 0 = ([], 0, 1) := by rw [doo_acc (by omega), acc_out (by omega)]
  have e6 : doo zs 1 t b 0 = ([], 0, 1) := by rw [doo_acc (by omega), acc_out (by omega)]
  generalize zs.set j a = cs at e2 e3 e4 e5 hl2
  have E5 := Lib.hid e5
  have E6 := Lib.hid e6
  clear e5 e6 ht
  have E1 := Lib.hid e1
  have E2 := Lib.hid e2
  have E3 := Lib.hid e3
  have E4 := Lib.hid e4
  have FN := Lib.hid (fit_nth (j := j) hx.2.2.1 (by omega))
  have S := Lib.hid (sameB_self zs)
  have HX := Lib.hid hx
  have FA := Lib.hid fa
  have FB := Lib.hid fb
  clear e1 e2 e3 e4 hx fa fb hl hl2
  go_enter Try.func6, Try.ntmps6
  go_wp2_with fail
  refine (live_any _).mono ?_
  rintro e w1 ⟨rfl, hb1⟩
  have HB1 := Lib.hid hb1
  clear hb1
  go_wp2_with fail
  refine (load_any _ _ _ zs _ _ ((HX.out).below HB1.out)).mono ?_
  rw [E1.out]
  rintro e w2 ⟨rfl, hb2⟩
  have HB2 := Lib.hid hb2
  clear hb2
  simp only []
  go_wp2_with fail
  refine (store_any _ _ _ zs _ _ _ (((HX.out).below HB1.out).below HB2.out) FA.out).mono ?_
  rw [E2.out]
  rintro e w3 ⟨A3, c3, rfl, ho3, hb3⟩
  have HB3 := Lib.hid hb3
  have HO3 := Lib.hid ho3
  clear hb3 ho3
  simp only []
  go_wp2_with fail
  refine (load_any _ _ _ cs _ _ (HO3.out).ints).mono ?_
  rw [E3.out]
  rintro e w4 ⟨rfl, hb4⟩
  have HB4 := Lib.hid hb4
  clear hb4
  simp only []
  go_wp2_with fail
  refine (store_any _ _ _ cs _ _ _ ((HO3.out).below HB4.out).ints FN.out).mono ?_
  rw [E4.out]
  rintro e w5 ⟨A5, c5, rfl, ho5, hb5⟩
  have HB5 := Lib.hid hb5
  have HO5 := Lib.hid ho5
  clear hb5 ho5
  simp only []
  go_wp2_with fail
  refine (same_b _ _ _ _ _ _ zs zs _ (HO5.out).ints ((((((HX.out).below HB1.out).below HB2.out).below HB3.out).below HB4.out).below HB5.out)).mono ?_
  rw [S.out]
  rintro e w6 ⟨rfl, hb6⟩
  have HB6 := Lib.hid hb6
  clear hb6
  simp only []
  go_wp2_with fail
  refine (store_any _ _ _ cs _ _ _ ((((HO3.out).below HB4.out).below HB5.out).below HB6.out).ints FB.out).mono ?_
  rw [E5.out]
  rintro e w7 ⟨A7, c7, rfl, ho7, hb7⟩
  have HB7 := Lib.hid hb7
  have HO7 := Lib.hid ho7
  clear hb7 ho7
  simp only []
  go_wp2_with fail
  refine (store_any _ _ _ zs _ _ _ ((((((((HX.out).below HB1.out).below HB2.out).below HB3.out).below HB4.out).below HB5.out).below HB6.out).below HB7.out) FB.out).mono ?_
  rw [E6.out]
  rintro e w8 ⟨A8, c8, rfl, ho8, hb8⟩
  have HB8 := Lib.hid hb8
  have HO8 := Lib.hid ho8
  clear hb8 ho8
  simp only []
  go_wp2
  go_ret
  exact ⟨rfl, below3 (below3 (below3 (below3 (below3 (below3 (below3 (HB1.out) HB2.out) HB3.out) HB4.out) HB5.out) HB6.out) HB7.out) HB8.out⟩

set_option maxHeartbeats 400000 in
theorem back_two_eq (hx : Ints w A n zs) (h : n ≤ 300) (j : Nat) (hj : j < n)  (fa : Fit a) (fb : Fit b) :
    Calls Try.prog 6 #[.slice A n c, .int .i64 j, .int .i64 j, .int .i64 a, .int .i64 b] w (TrueAns w) := by
  have hl := hx.1
  have e1 : doo zs 0 j 0 0 = (zs, nth zs j, 0) := by rw [doo_acc (by omega), acc_load (by omega)]
  have e2 : doo zs 1 j a 0 = (zs.set j a, 0, 0) := by rw [doo_acc (by omega), acc_store (by omega)]
  have hl2 : (zs.set j a).length = n := by simpa using hl
  have e3 : doo (zs.set j a) 0 j 0 0 = (zs.set j a, a, 0) := by rw [doo_acc (by omega), acc_load (by omega), nth_set (by omega)]
  have e4 : doo (zs.set j a) 1 j (nth zs j) 0 = (zs, 0, 0) := by rw [doo_acc (by omega), acc_store (by omega), List.set_set, set_same (by omega)]
  have e5 : doo (zs.set j a) 1 j b 0 = ((zs.set j a).set j b, 0, 0) := by rw [doo_acc (by omega), acc_store (by omega)]
  have e6 : doo zs 1 j b 0 = (zs.set j b, 0, 0) := by rw [doo_acc (by omega), acc_store (by omega)]
  have hl3 : (zs.set j b).length = n := by simpa using hl
  have e7 : doo (zs.set j b) 1 j a 0 = ((zs.set j b).set j a, 0, 0) := by rw [doo_acc (by omega), acc_store (by omega)]
  have e8 : ((j : Int) == (j : Int)) = true := by simp
  generalize (zs.set j a).set j b = es at e5
  generalize (zs.set j b).set j a = gs at e7
  generalize zs.set j a = cs at e2 e3 e4 e5 hl2
  generalize zs.set j b = ds at e6 e7 hl3
  have E5 := Lib.hid e5
  have E6 := Lib.hid e6
  have E7 := Lib.hid e7
  clear e5 e6 e7 hl3
  have E1 := Lib.hid e1
  have E2 := Lib.hid e2
  have E3 := Lib.hid e3
  have E4 := Lib.hid e4
  have FN := Lib.hid (fit_nth (j := j) hx.2.2.1 (by omega))
  have S := Lib.hid (sameB_self zs)
  have HX := Lib.hid hx
  have FA := Lib.hid fa
  have FB := Lib.hid fb
  clear e1 e2 e3 e4 hx fa fb hl hl2
  go_enter Try.func6, Try.ntmps6
  go_wp2_with fail
  refine (live_any _).mono ?_
  rintro e w1 ⟨rfl, hb1⟩
  have HB1 := Lib.hid hb1
  clear hb1
  go_wp2_with fail
  refine (load_any _ _ _ zs _ _ ((HX.out).below HB1.out)).mono ?_
  rw [E1.out]
  rintro e w2 ⟨rfl, hb2⟩
  have HB2 := Lib.hid hb2
  clear hb2
  simp only []
  go_wp2_with fail
  refine (store_any _ _ _ zs _ _ _ (((HX.out).below HB1.out).below HB2.out) FA.out).mono ?_
  rw [E2.out]
  rintro e w3 ⟨A3, c3, rfl, ho3, hb3⟩
  have HB3 := Lib.hid hb3
  have HO3 := Lib.hid ho3
  clear hb3 ho3
  simp only []
  go_wp2_with fail
  refine (load_any _ _ _ cs _ _ (HO3.out).ints).mono ?_
  rw [E3.out]
  rintro e w4 ⟨rfl, hb4⟩
  have HB4 := Lib.hid hb4
  clear hb4
  simp only []
  go_wp2_with fail
  refine (store_any _ _ _ cs _ _ _ ((HO3.out).below HB4.out).ints FN.out).mono ?_
  rw [E4.out]
  rintro e w5 ⟨A5, c5, rfl, ho5, hb5⟩
  have HB5 := Lib.hid hb5
  have HO5 := Lib.hid ho5
  clear hb5 ho5
  simp only []
  go_wp2_with fail
  refine (same_b _ _ _ _ _ _ zs zs _ (HO5.out).ints ((((((HX.out).below HB1.out).below HB2.out).below HB3.out).below HB4.out).below HB5.out)).mono ?_
  rw [S.out]
  rintro e w6 ⟨rfl, hb6⟩
  have HB6 := Lib.hid hb6
  clear hb6
  simp only []
  go_wp2_with fail
  refine (store_any _ _ _ cs _ _ _ ((((HO3.out).below HB4.out).below HB5.out).below HB6.out).ints FB.out).mono ?_
  rw [E5.out]
  rintro e w7 ⟨A7, c7, rfl, ho7, hb7⟩
  have HB7 := Lib.hid hb7
  have HO7 := Lib.hid ho7
  clear hb7 ho7
  simp only []
  go_wp2_with fail
  refine (store_any _ _ _ zs _ _ _ ((((((((HX.out).below HB1.out).below HB2.out).below HB3.out).below HB4.out).below HB5.out).below HB6.out).below HB7.out) FB.out).mono ?_
  rw [E6.out]
  rintro e w8 ⟨A8, c8, rfl, ho8, hb8⟩
  have HB8 := Lib.hid hb8
  have HO8 := Lib.hid ho8
  clear hb8 ho8
  simp only []
  go_wp2_with fail
  refine (store_any _ _ _ ds _ _ _ (HO8.out).ints FA.out).mono ?_
  rw [E7.out]
  rintro e w9 ⟨A9, c9, rfl, ho9, hb9⟩
  have HB9 := Lib.hid hb9
  have HO9 := Lib.hid ho9
  clear hb9 ho9
  simp only []
  go_wp2
  go_ret
  exact ⟨rfl, below3 (below3 (below3 (below3 (below3 (below3 (below3 (below3 (HB1.out) HB2.out) HB3.out) HB4.out) HB5.out) HB6.out) HB7.out) HB8.out) HB9.out⟩

set_option maxHeartbeats 400000 in
theorem back_two_ne (hx : Ints w A n zs) (h : n ≤ 300) (j : Nat) (hj : j < n) (i : Nat) (hi : i < n) (hij : j ≠ i) (fa : Fit a) (fb : Fit b) :
    Calls Try.prog 6 #[.slice A n c, .int .i64 j, .int .i64 i, .int .i64 a, .int .i64 b] w (TrueAns w) := by
  have hl := hx.1
  have e1 : doo zs 0 j 0 0 = (zs, nth zs j, 0) := by rw [doo_acc (by omega), acc_load (by omega)]
  have e2 : doo zs 1 j a 0 = (zs.set j a, 0, 0) := by rw [doo_acc (by omega), acc_store (by omega)]
  have hl2 : (zs.set j a).length = n := by simpa using hl
  have e3 : doo (zs.set j a) 0 j 0 0 = (zs.set j a, a, 0) := by rw [doo_acc (by omega), acc_load (by omega), nth_set (by omega)]
  have e4 : doo (zs.set j a) 1 j (nth zs j) 0 = (zs, 0, 0) := by rw [doo_acc (by omega), acc_store (by omega), List.set_set, set_same (by omega)]
  have e5 : doo (zs.set j a) 1 i b 0 = ((zs.set j a).set i b, 0, 0) := by rw [doo_acc (by omega), acc_store (by omega)]
  have e6 : doo zs 1 i b 0 = (zs.set i b, 0, 0) := by rw [doo_acc (by omega), acc_store (by omega)]
  have hl3 : (zs.set i b).length = n := by simpa using hl
  have e7 : doo (zs.set i b) 1 j a 0 = ((zs.set j a).set i b, 0, 0) := by rw [doo_acc (by omega), acc_store (by omega), List.set_comm _ _ (by omega)]
  have e8 : ((j : Int) == (i : Int)) = false := by simp; omega
  generalize (zs.set j a).set i b = es at e5 e7
  generalize zs.set j a = cs at e2 e3 e4 e5 hl2
  generalize zs.set i b = ds at e6 e7 hl3
  have E5 := Lib.hid e5
  have E6 := Lib.hid e6
  have E7 := Lib.hid e7
  have S2 := Lib.hid (sameB_self es)
  clear e5 e6 e7 hl3
  have E1 := Lib.hid e1
  have E2 := Lib.hid e2
  have E3 := Lib.hid e3
  have E4 := Lib.hid e4
  have FN := Lib.hid (fit_nth (j := j) hx.2.2.1 (by omega))
  have S := Lib.hid (sameB_self zs)
  have HX := Lib.hid hx
  have FA := Lib.hid fa
  have FB := Lib.hid fb
  clear e1 e2 e3 e4 hx fa fb hl hl2
  go_enter Try.func6, Try.ntmps6
  go_wp2_with fail
  refine (live_any _).mono ?_
  rintro e w1 ⟨rfl, hb1⟩
  have HB1 := Lib.hid hb1
  clear hb1
  go_wp2_with fail
  refine (load_any _ _ _ zs _ _ ((HX.out).below HB1.out)).mono ?_
  rw [E1.out]
  rintro e w2 ⟨rfl, hb2⟩
  have HB2 := Lib.hid hb2
  clear hb2
  simp only []
  go_wp2_with fail
  refine (store_any _ _ _ zs _ _ _ (((HX.out).below HB1.out).below HB2.out) FA.out).mono ?_
  rw [E2.out]
  rintro e w3 ⟨A3, c3, rfl, ho3, hb3⟩
  have HB3 := Lib.hid hb3
  have HO3 := Lib.hid ho3
  clear hb3 ho3
  simp only []
  go_wp2_with fail
  refine (load_any _ _ _ cs _ _ (HO3.out).ints).mono ?_
  rw [E3.out]
  rintro e w4 ⟨rfl, hb4⟩
  have HB4 := Lib.hid hb4
  clear hb4
  simp only []
  go_wp2_with fail
  refine (store_any _ _ _ cs _ _ _ ((HO3.out).below HB4.out).ints FN.out).mono ?_
  rw [E4.out]
  rintro e w5 ⟨A5, c5, rfl, ho5, hb5⟩
  have HB5 := Lib.hid hb5
  have HO5 := Lib.hid ho5
  clear hb5 ho5
  simp only []
  go_wp2_with fail
  refine (same_b _ _ _ _ _ _ zs zs _ (HO5.out).ints ((((((HX.out).below HB1.out).below HB2.out).below HB3.out).below HB4.out).below HB5.out)).mono ?_
  rw [S.out]
  rintro e w6 ⟨rfl, hb6⟩
  have HB6 := Lib.hid hb6
  clear hb6
  simp only []
  go_wp2_with fail
  refine (store_any _ _ _ cs _ _ _ ((((HO3.out).below HB4.out).below HB5.out).below HB6.out).ints FB.out).mono ?_
  rw [E5.out]
  rintro e w7 ⟨A7, c7, rfl, ho7, hb7⟩
  have HB7 := Lib.hid hb7
  have HO7 := Lib.hid ho7
  clear hb7 ho7
  simp only []
  go_wp2_with fail
  refine (store_any _ _ _ zs _ _ _ ((((((((HX.out).below HB1.out).below HB2.out).below HB3.out).below HB4.out).below HB5.out).below HB6.out).below HB7.out) FB.out).mono ?_
  rw [E6.out]
  rintro e w8 ⟨A8, c8, rfl, ho8, hb8⟩
  have HB8 := Lib.hid hb8
  have HO8 := Lib.hid ho8
  clear hb8 ho8
  simp only []
  go_wp2_with fail
  refine (store_any _ _ _ ds _ _ _ (HO8.out).ints FA.out).mono ?_
  rw [E7.out]
  rintro e w9 ⟨A9, c9, rfl, ho9, hb9⟩
  have HB9 := Lib.hid hb9
  have HO9 := Lib.hid ho9
  clear hb9 ho9
  simp only []
  go_wp2_with fail
  refine (same_b _ _ _ _ _ _ es es _ (((HO7.out).below HB8.out).below HB9.out).ints (HO9.out).ints).mono ?_
  rw [S2.out]
  rintro e w10 ⟨rfl, hb10⟩
  have HB10 := Lib.hid hb10
  clear hb10
  simp only []
  go_wp2
  go_ret
  exact ⟨rfl, below3 (below3 (below3 (below3 (below3 (below3 (below3 (below3 (below3 (HB1.out) HB2.out) HB3.out) HB4.out) HB5.out) HB6.out) HB7.out) HB8.out) HB9.out) HB10.out⟩

theorem back_any (hx : Ints w A n zs) (fa : Fit a) (fb : Fit b) :
    Calls Try.prog 6 #[.slice A n c, .int .i64 p, .int .i64 t, .int .i64 a, .int .i64 b] w (TrueAns w) := by
  have hm := hx.2.1
  by_cases h : 300 < n
  · exact back_big A n c p t a b w h (by omega)
  by_cases hp : p < 0
  · exact back_low A n c zs p t a b w hx (by omega) hp fa
  by_cases hp2 : (n : Int) ≤ p
  · exact back_high A n c zs p t a b w hx (by omega) hp2 fa
  obtain ⟨j, rfl⟩ : ∃ i : Nat, p = i := ⟨p.toNat, by omega⟩
  by_cases ht : t < 0 ∨ (n : Int) ≤ t
  · exact back_two_out A n c zs t a b w hx (by omega) j (by omega) ht fa fb
  obtain ⟨i, rfl⟩ : ∃ i : Nat, t = i := ⟨t.toNat, by omega⟩
  by_cases hij : j = i
  · subst hij
    exact back_two_eq A n c zs a b w hx (by omega) j (by omega) fa fb
  · exact back_two_ne A n c zs a b w hx (by omega) j (by omega) i (by omega) hij fa fb
end

end Go.Proofs.Ytmmilceemnggiaa

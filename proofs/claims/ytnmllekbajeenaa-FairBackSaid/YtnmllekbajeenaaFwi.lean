/-
  Contracts of calc's numbers of 128 bits: what each of their functions answers, as whole numbers.
-/
import Derived.Test.YtnmllekbajeenaaFsh
import Derived.Test.YtnmllekbajeenaaOct
import Derived.Deep.RegionHeld3
import Derived.WalkSpells
import Derived.StillTactics
namespace Go.Proofs.Ytnmllekbajeenaa
open Go.RowKit

/-- The upper and the lower word of a number of 128 bits. -/
def hiOf (V : Int) : Int := V / 18446744073709551616
def loOf (V : Int) : Int := V % 18446744073709551616
def tz (z : Int) : Int := if Fit z then z else 0
def te (z : Int) : Int := if Fit z then 0 else 4
/-- A number of about 127 bits, and of 128. -/
def Mid (V : Int) : Prop := -85070591730234615865843651857942052863 ≤ V ∧ V ≤ 85070591730234615865843651857942052864
def Wid (V : Int) : Prop := -170141183460469231731687303715884105728 ≤ V ∧ V ≤ 170141183460469231731687303715884105727

theorem ret_wide {x y x' y' : Int} (hx : x' = x) (hy : y' = y) : Ending.returned (.agg #[.int .i64 x', .int .u64 y']) = .returned (.agg #[.int .i64 x, .int .u64 y]) := by rw [hx, hy]

theorem wrap64_eq (z : Int) : wrap64 z = (z + 9223372036854775808) % 18446744073709551616 - 9223372036854775808 := by
  unfold wrap64; rfl

theorem widen_ex (n : Int) (w : World) (h : Fit n) :
    Calls Try.prog 40 #[.int .i64 n] w fun e w' => e = .returned (.agg #[.int .i64 (hiOf n), .int .u64 (loOf n)]) ∧ w' = w.alloc (.cells #[.int .i64 (hiOf n), .int .u64 (loOf n)] 59) := by
  have e1 : n / 9223372036854775808 = hiOf n := by unfold Fit at h; unfold hiOf; omega
  have e2 : IntKind.u64.wrap n = loOf n := by unfold loOf; rw [IntKind.wrap_u64]
  go_enter Try.func40, Try.ntmps40
  go_wp2
  simp [bodyPost, results, Try.results40, go_sem]

theorem widen_any (n : Int) (w : World) (h : Fit n) :
    Calls Try.prog 40 #[.int .i64 n] w (RetB (.agg #[.int .i64 (hiOf n), .int .u64 (loOf n)]) w) :=
  (widen_ex n w h).mono fun _ _ ⟨he, hw⟩ => ⟨he, hw ▸ below_alloc (Below.refl _ _) _⟩

theorem wrap64_id {z : Int} (h1 : -9223372036854775808 ≤ z) (h2 : z ≤ 9223372036854775807) : wrap64 z = z := by rw [wrap64_eq]; omega

theorem plus_any (a b : Int) (w : World) (ha : Fit a) (hb : Fit b) :
    Calls Try.prog 41 #[.agg #[.int .i64 (hiOf a), .int .u64 (loOf a)], .agg #[.int .i64 (hiOf b), .int .u64 (loOf b)]] w (RetB (.agg #[.int .i64 (hiOf (a + b)), .int .u64 (loOf (a + b))]) w) := by
  have a1 : 0 ≤ loOf a := by unfold loOf; omega
  have b1 : 0 ≤ loOf b := by unfold loOf; omega
  go_enter Try.func41, Try.ntmps41
  go_wp2_with (simp only [add64 _ _ a1 b1])
  simp [bodyPost, results, Try.results41, go_sem]
  unfold Fit at ha hb
  have k1 : wrap64 (hiOf a + hiOf b) = hiOf a + hiOf b := wrap64_id (by unfold hiOf; omega) (by unfold hiOf; omega)
  have k2 : wrap64 ((loOf a + loOf b) / 18446744073709551616) = (loOf a + loOf b) / 18446744073709551616 := wrap64_id (by unfold loOf; omega) (by unfold loOf; omega)
  have k3 : wrap64 (hiOf a + hiOf b + (loOf a + loOf b) / 18446744073709551616) = hiOf a + hiOf b + (loOf a + loOf b) / 18446744073709551616 := wrap64_id (by unfold hiOf loOf; omega) (by unfold hiOf loOf; omega)
  exact RetB.of (ret_wide (by rw [k1, k2, k3]; unfold hiOf loOf; omega) (by unfold loOf; omega)) (below_alloc (below_alloc (below_alloc (Below.refl _ _) _) _) _)

theorem minus_any (a b : Int) (w : World) (ha : Mid a) (hb : Mid b) :
    Calls Try.prog 43 #[.agg #[.int .i64 (hiOf a), .int .u64 (loOf a)], .agg #[.int .i64 (hiOf b), .int .u64 (loOf b)]] w (RetB (.agg #[.int .i64 (hiOf (a - b)), .int .u64 (loOf (a - b))]) w) := by
  have a1 : 0 ≤ loOf a := by unfold loOf; omega
  have b1 : 0 ≤ loOf b := by unfold loOf; omega
  have b2 : loOf b < 18446744073709551616 := by unfold loOf; omega
  go_enter Try.func43, Try.ntmps43
  go_wp2_with (simp only [sub64 _ _ a1 b1 b2])
  simp [bodyPost, results, Try.results43, go_sem]
  unfold Mid at ha hb
  exact RetB.of (ret_wide (by simp only [wrap64_eq]; unfold hiOf bor loOf; split <;> omega) (by unfold loOf; omega)) (below_alloc (below_alloc (below_alloc (Below.refl _ _) _) _) _)

theorem mid_mul {a b : Int} (ha : Fit a) (hb : Fit b) : Mid (a * b) := by
  unfold Fit at ha hb
  unfold Mid
  have h1 : a.natAbs ≤ 9223372036854775808 := by omega
  have h2 : b.natAbs ≤ 9223372036854775808 := by omega
  have h3 := Nat.mul_le_mul h1 h2
  rw [← Int.natAbs_mul] at h3
  by_cases h : a * b < 0
  · have h4 : a.natAbs ≤ 9223372036854775807 ∨ b.natAbs ≤ 9223372036854775807 := by
      apply Classical.byContradiction
      intro hc
      have ea : a = -9223372036854775808 := by omega
      have eb : b = -9223372036854775808 := by omega
      rw [ea, eb] at h
      omega
    rcases h4 with h4 | h4
    · have h5 := Nat.mul_le_mul h4 h2
      rw [← Int.natAbs_mul] at h5
      omega
    · have h5 := Nat.mul_le_mul h1 h4
      rw [← Int.natAbs_mul] at h5
      omega
  · omega

theorem times_eq0 (a b : Int) (ha : Fit a) (hb : Fit b) (h1 : a < 0) (h2 : b < 0) :
    wrap64 (wrap64 (wrap64 (IntKind.u64.wrap a * IntKind.u64.wrap b / 18446744073709551616) - b) - a) = hiOf (a * b) ∧ IntKind.u64.wrap a * IntKind.u64.wrap b % 18446744073709551616 = loOf (a * b) := by
  have hm := mid_mul ha hb
  unfold Fit at ha hb
  unfold Mid at hm
  have ea : IntKind.u64.wrap a = a + 18446744073709551616 := by rw [IntKind.wrap_u64]; omega
  have eb : IntKind.u64.wrap b = b + 18446744073709551616 := by rw [IntKind.wrap_u64]; omega
  simp only [wrap64_eq]
  unfold hiOf loOf
  rw [ea, eb, Int.add_mul, Int.mul_add]
  omega

theorem times_0 (a b : Int) (w : World) (ha : Fit a) (hb : Fit b) (h1 : a < 0) (h2 : b < 0) :
    Calls Try.prog 48 #[.int .i64 a, .int .i64 b] w (RetB (.agg #[.int .i64 (hiOf (a * b)), .int .u64 (loOf (a * b))]) w) := by
  have E := Lib.hid (times_eq0 a b ha hb h1 h2)
  clear ha hb
  go_enter Try.func48, Try.ntmps48
  go_wp2_with (go_at_call 55; refine (mul64 _ _ (by rw [IntKind.wrap_u64]; omega) (by rw [IntKind.wrap_u64]; omega) (by rw [IntKind.wrap_u64]; omega) (by rw [IntKind.wrap_u64]; omega) _).mono ?_; rintro e w' ⟨rfl, rfl⟩)
  simp [bodyPost, results, Try.results48, go_sem]
  exact RetB.of (ret_wide E.out.1 E.out.2) (below_alloc (Below.refl _ _) _)

theorem times_eq1 (a b : Int) (ha : Fit a) (hb : Fit b) (h1 : a < 0) (h2 : 0 ≤ b) :
    wrap64 (wrap64 (IntKind.u64.wrap a * IntKind.u64.wrap b / 18446744073709551616) - b) = hiOf (a * b) ∧ IntKind.u64.wrap a * IntKind.u64.wrap b % 18446744073709551616 = loOf (a * b) := by
  have hm := mid_mul ha hb
  unfold Fit at ha hb
  unfold Mid at hm
  have ea : IntKind.u64.wrap a = a + 18446744073709551616 := by rw [IntKind.wrap_u64]; omega
  have eb : IntKind.u64.wrap b = b := by rw [IntKind.wrap_u64]; omega
  simp only [wrap64_eq]
  unfold hiOf loOf
  rw [ea, eb, Int.add_mul]
  omega

theorem times_1 (a b : Int) (w : World) (ha : Fit a) (hb : Fit b) (h1 : a < 0) (h2 : 0 ≤ b) :
    Calls Try.prog 48 #[.int .i64 a, .int .i64 b] w (RetB (.agg #[.int .i64 (hiOf (a * b)), .int .u64 (loOf (a * b))]) w) := by
  have E := Lib.hid (times_eq1 a b ha hb h1 h2)
  clear ha hb
  go_enter Try.func48, Try.ntmps48
  go_wp2_with (go_at_call 55; refine (mul64 _ _ (by rw [IntKind.wrap_u64]; omega) (by rw [IntKind.wrap_u64]; omega) (by rw [IntKind.wrap_u64]; omega) (by rw [IntKind.wrap_u64]; omega) _).mono ?_; rintro e w' ⟨rfl, rfl⟩)
  simp [bodyPost, results, Try.results48, go_sem]
  exact RetB.of (ret_wide E.out.1 E.out.2) (below_alloc (Below.refl _ _) _)

theorem times_eq2 (a b : Int) (ha : Fit a) (hb : Fit b) (h1 : 0 ≤ a) (h2 : b < 0) :
    wrap64 (wrap64 (IntKind.u64.wrap a * IntKind.u64.wrap b / 18446744073709551616) - a) = hiOf (a * b) ∧ IntKind.u64.wrap a * IntKind.u64.wrap b % 18446744073709551616 = loOf (a * b) := by
  have hm := mid_mul ha hb
  unfold Fit at ha hb
  unfold Mid at hm
  have ea : IntKind.u64.wrap a = a := by rw [IntKind.wrap_u64]; omega
  have eb : IntKind.u64.wrap b = b + 18446744073709551616 := by rw [IntKind.wrap_u64]; omega
  simp only [wrap64_eq]
  unfold hiOf loOf
  rw [ea, eb, Int.mul_add]
  omega

theorem times_2 (a b : Int) (w : World) (ha : Fit a) (hb : Fit b) (h1 : 0 ≤ a) (h2 : b < 0) :
    Calls Try.prog 48 #[.int .i64 a, .int .i64 b] w (RetB (.agg #[.int .i64 (hiOf (a * b)), .int .u64 (loOf (a * b))]) w) := by
  have E := Lib.hid (times_eq2 a b ha hb h1 h2)
  clear ha hb
  go_enter Try.func48, Try.ntmps48
  go_wp2_with (go_at_call 55; refine (mul64 _ _ (by rw [IntKind.wrap_u64]; omega) (by rw [IntKind.wrap_u64]; omega) (by rw [IntKind.wrap_u64]; omega) (by rw [IntKind.wrap_u64]; omega) _).mono ?_; rintro e w' ⟨rfl, rfl⟩)
  simp [bodyPost, results, Try.results48, go_sem]
  exact RetB.of (ret_wide E.out.1 E.out.2) (below_alloc (Below.refl _ _) _)

theorem times_eq3 (a b : Int) (ha : Fit a) (hb : Fit b) (h1 : 0 ≤ a) (h2 : 0 ≤ b) :
    wrap64 (IntKind.u64.wrap a * IntKind.u64.wrap b / 18446744073709551616) = hiOf (a * b) ∧ IntKind.u64.wrap a * IntKind.u64.wrap b % 18446744073709551616 = loOf (a * b) := by
  have hm := mid_mul ha hb
  unfold Fit at ha hb
  unfold Mid at hm
  have ea : IntKind.u64.wrap a = a := by rw [IntKind.wrap_u64]; omega
  have eb : IntKind.u64.wrap b = b := by rw [IntKind.wrap_u64]; omega
  simp only [wrap64_eq]
  unfold hiOf loOf
  rw [ea, eb]
  omega

theorem times_3 (a b : Int) (w : World) (ha : Fit a) (hb : Fit b) (h1 : 0 ≤ a) (h2 : 0 ≤ b) :
    Calls Try.prog 48 #[.int .i64 a, .int .i64 b] w (RetB (.agg #[.int .i64 (hiOf (a * b)), .int .u64 (loOf (a * b))]) w) := by
  have E := Lib.hid (times_eq3 a b ha hb h1 h2)
  clear ha hb
  go_enter Try.func48, Try.ntmps48
  go_wp2_with (go_at_call 55; refine (mul64 _ _ (by rw [IntKind.wrap_u64]; omega) (by rw [IntKind.wrap_u64]; omega) (by rw [IntKind.wrap_u64]; omega) (by rw [IntKind.wrap_u64]; omega) _).mono ?_; rintro e w' ⟨rfl, rfl⟩)
  simp [bodyPost, results, Try.results48, go_sem]
  exact RetB.of (ret_wide E.out.1 E.out.2) (below_alloc (Below.refl _ _) _)

theorem times_any (a b : Int) (w : World) (ha : Fit a) (hb : Fit b) :
    Calls Try.prog 48 #[.int .i64 a, .int .i64 b] w (RetB (.agg #[.int .i64 (hiOf (a * b)), .int .u64 (loOf (a * b))]) w) := by
  by_cases h1 : a < 0 <;> by_cases h2 : b < 0
  · exact times_0 a b w ha hb h1 h2
  · exact times_1 a b w ha hb h1 (by omega)
  · exact times_2 a b w ha hb (by omega) h2
  · exact times_3 a b w ha hb (by omega) (by omega)

theorem narrow_yes (h l V : Int) (w : World) (hh : h = hiOf V) (hl : l = loOf V) (hV : Fit V) :
    Calls Try.prog 42 #[.agg #[.int .i64 h, .int .u64 l]] w (RetB (.tuple #[.int .i64 V, .int .i64 0]) w) := by
  have e1 : wrap64 (loOf V) = V := by rw [wrap64_eq]; unfold Fit at hV; unfold loOf; omega
  subst hh hl
  have E1 := Lib.hid e1
  clear e1
  go_enter Try.func42, Try.ntmps42
  go_wp2
  rw [E1.out]
  go_region_held3 (fun w' => w'.cell? ⟨w.heap.size, 0, none⟩ = some (.int .i64 (hiOf V)) ∧ w'.cell? ⟨w.heap.size, 1, none⟩ = some (.int .u64 (loOf V))) (simp [go_sem, World.cell?_alloc_past])
    (first | (go_at_call 40; refine (widen_ex _ _ hV).mono ?_; rintro e w' ⟨rfl, rfl⟩))
  go_wp2
  go_ret2
  exact RetB.of rfl (by repeat (first | exact Below.refl _ _ | apply below_drew | apply below_alloc))

theorem narrow_no (V : Int) (w : World) (hV : ¬ Fit V) :
    Calls Try.prog 42 #[.agg #[.int .i64 (hiOf V), .int .u64 (loOf V)]] w (RetB (.tuple #[.int .i64 0, .int .i64 4]) w) := by
  have e0 : Fit (wrap64 (loOf V)) := by rw [wrap64_eq]; unfold Fit; omega
  generalize hU : wrap64 (loOf V) = U at e0
  have e1 : (hiOf V = hiOf U) = False := by
    rw [wrap64_eq] at hU
    unfold Fit at hV e0
    unfold hiOf
    unfold loOf at hU
    simp only [eq_iff_iff, iff_false]
    omega
  have E0 := Lib.hid e0
  have EU := Lib.hid hU
  clear e0 hU hV
  go_enter Try.func42, Try.ntmps42
  go_wp2
  rw [EU.out]
  go_region_held3 (fun w' => w'.cell? ⟨w.heap.size, 0, none⟩ = some (.int .i64 (hiOf V)) ∧ w'.cell? ⟨w.heap.size, 1, none⟩ = some (.int .u64 (loOf V))) (simp [go_sem, World.cell?_alloc_past])
    (first | (go_at_call 40; refine (widen_ex _ _ E0.out).mono ?_; rintro e w' ⟨rfl, rfl⟩))
  go_wp2
  go_ret2
  exact RetB.of rfl (by repeat (first | exact Below.refl _ _ | apply below_drew | apply below_alloc))

/-- What narrow tells of any number. -/
theorem narrow_any (V : Int) (w : World) :
    Calls Try.prog 42 #[.agg #[.int .i64 (hiOf V), .int .u64 (loOf V)]] w (RetB (.tuple #[.int .i64 (tz V), .int .i64 (te V)]) w) := by
  by_cases h : Fit V
  · have e1 : tz V = V := if_pos h
    have e2 : te V = 0 := if_pos h
    rw [e1, e2]
    exact narrow_yes _ _ V w rfl rfl h
  · have e1 : tz V = 0 := if_neg h
    have e2 : te V = 4 := if_neg h
    rw [e1, e2]
    exact narrow_no V w h

end Go.Proofs.Ytnmllekbajeenaa

/-
  The contract of calc's Gap.
-/
import Derived.Test.YtaaffpeppdinhaaOps
namespace Go.Proofs.Ytaaffpeppdinhaa
open Go.RowKit

/-- The error of Gap, where both are above 0. -/
def gapE (a b c d : Int) : Int := first4 (te (a * d)) (te (c * b)) (te (dist (a * d) (c * b))) (te (b * d))
/-- What Gap tells. -/
def gapT (a b c d : Int) : Int × Int × Int :=
  if b < 1 ∨ d < 1 then (0, 0, 1) else if gapE a b c d = 0 then (dist (a * d) (c * b), b * d, 0) else (0, 0, gapE a b c d)

theorem te_cases (z : Int) : te z = 0 ∧ Fit z ∧ tz z = z ∨ te z = 4 ∧ ¬ Fit z ∧ tz z = 0 := by
  unfold te tz
  by_cases h : Fit z
  · exact .inl ⟨if_pos h, h, if_pos h⟩
  · exact .inr ⟨if_neg h, h, if_neg h⟩

theorem gapE_zero {a b c d : Int} (h : gapE a b c d = 0) : tz (dist (a * d) (c * b)) = dist (a * d) (c * b) ∧ tz (b * d) = b * d := by
  unfold gapE first4 at h
  rcases te_cases (a * d) with h1 | h1 <;> rcases te_cases (c * b) with h2 | h2 <;> rcases te_cases (dist (a * d) (c * b)) with h3 | h3 <;> rcases te_cases (b * d) with h4 | h4 <;> simp_all

theorem gap_ok (a b c d : Int) (w : World) (ha : Fit a) (hb : Fit b) (hc : Fit c) (hd : Fit d) (h1 : ¬ b < 1) (h2 : ¬ d < 1) (he : gapE a b c d = 0) :
    Calls Try.prog 22 #[.int .i64 a, .int .i64 b, .int .i64 c, .int .i64 d] w (RetB (.tuple #[.int .i64 (dist (a * d) (c * b)), .int .i64 (b * d), .int .i64 0]) w) := by
  obtain ⟨z1, z2⟩ := gapE_zero he
  have HA := Lib.hid ha
  have HB := Lib.hid hb
  have HC := Lib.hid hc
  have HD := Lib.hid hd
  have Z1 := Lib.hid z1
  have Z2 := Lib.hid z2
  have HE := Lib.hid he
  clear ha hb hc hd z1 z2 he
  go_enter Try.func22, Try.ntmps22
  go_wp2_with fail
  refine (times_any a d _ HA.out HD.out).mono ?_
  rintro e w1 ⟨rfl, hb1⟩
  have HB1 := Lib.hid hb1
  clear hb1
  go_wp2_with fail
  refine (times_any c b _ HC.out HB.out).mono ?_
  rintro e w2 ⟨rfl, hb2⟩
  have HB2 := Lib.hid hb2
  clear hb2
  go_wp2_with fail
  generalize hw : ((w2.alloc _).alloc _) = w3
  have BL : Hid (Below w2.heap.size w2 w3) := by rw [← hw]; exact below_alloc (below_alloc (Below.refl _ _) _) _
  have a0 : At w3 w2.heap.size 0 (.int .i64 (hiOf (a * d))) := by rw [← hw]; exact ⟨by simp; omega, by simp [go_sem], by simp [go_sem]⟩
  have a1 : At w3 w2.heap.size 1 (.int .u64 (loOf (a * d))) := by rw [← hw]; exact ⟨by simp; omega, by simp [go_sem], by simp [go_sem]⟩
  have b0 : At w3 (w2.heap.size + 1) 0 (.int .i64 (hiOf (c * b))) := by rw [← hw]; exact ⟨by simp, by simp [go_sem], by simp [go_sem]⟩
  have b1 : At w3 (w2.heap.size + 1) 1 (.int .u64 (loOf (c * b))) := by rw [← hw]; exact ⟨by simp, by simp [go_sem], by simp [go_sem]⟩
  clear hw
  refine (narrow_any _ _).mono ?_
  rintro e w4 ⟨rfl, hb4⟩
  have HB4 := Lib.hid hb4
  replace a0 := a0.below hb4
  replace a1 := a1.below hb4
  replace b0 := b0.below hb4
  replace b1 := b1.below hb4
  clear hb4
  have ca0 := a0.2.1
  have ca1 := a1.2.1
  have cb0 := b0.2.1
  have cb1 := b1.2.1
  go_wp2_with fail
  refine (narrow_any _ _).mono ?_
  rintro e w5 ⟨rfl, hb5⟩
  have HB5 := Lib.hid hb5
  clear ca0 ca1 cb0 cb1
  replace a0 := a0.below hb5
  replace a1 := a1.below hb5
  replace b0 := b0.below hb5
  replace b1 := b1.below hb5
  clear hb5
  have ca0 := a0.2.1
  have ca1 := a1.2.1
  have cb0 := b0.2.1
  have cb1 := b1.2.1
  go_wp2_with fail
  refine (apart_any _ _ _ (mid_mul HA.out HD.out) (mid_mul HC.out HB.out)).mono ?_
  rintro e w6 ⟨rfl, hb6⟩
  have HB6 := Lib.hid hb6
  clear ca0 ca1 cb0 cb1
  clear a0 a1 b0 b1
  clear hb6
  go_wp2_with fail
  refine (narrow_any _ _).mono ?_
  rintro e w7 ⟨rfl, hb7⟩
  have HB7 := Lib.hid hb7
  clear hb7
  go_wp2_with fail
  refine (mul_any b d _ HB.out HD.out).mono ?_
  rintro e w8 ⟨rfl, hb8⟩
  have HB8 := Lib.hid hb8
  clear hb8
  go_wp2_with fail
  refine (first_any _ _ _ _ _).mono ?_
  change ∀ e w', RetB (.int .i64 (gapE a b c d)) _ e w' → _
  rw [HE.out]
  rintro e w9 ⟨rfl, hb9⟩
  have HB9 := Lib.hid hb9
  clear hb9
  have bb := Lib.hid (below3 (below3 (below3 (below3 (below3 (below3 (below3 (below3 HB1.out HB2.out) BL.out) HB4.out) HB5.out) HB6.out) HB7.out) HB8.out) HB9.out)
  go_wp2
  go_ret3
  exact RetB.of (by rw [Z1.out, Z2.out]; rfl) bb.out

theorem gap_bad (a b c d : Int) (w : World) (ha : Fit a) (hb : Fit b) (hc : Fit c) (hd : Fit d) (h1 : ¬ b < 1) (h2 : ¬ d < 1) (he : gapE a b c d ≠ 0) :
    Calls Try.prog 22 #[.int .i64 a, .int .i64 b, .int .i64 c, .int .i64 d] w (RetB (.tuple #[.int .i64 0, .int .i64 0, .int .i64 (gapE a b c d)]) w) := by
  have HA := Lib.hid ha
  have HB := Lib.hid hb
  have HC := Lib.hid hc
  have HD := Lib.hid hd
  clear ha hb hc hd
  go_enter Try.func22, Try.ntmps22
  go_wp2_with fail
  refine (times_any a d _ HA.out HD.out).mono ?_
  rintro e w1 ⟨rfl, hb1⟩
  have HB1 := Lib.hid hb1
  clear hb1
  go_wp2_with fail
  refine (times_any c b _ HC.out HB.out).mono ?_
  rintro e w2 ⟨rfl, hb2⟩
  have HB2 := Lib.hid hb2
  clear hb2
  go_wp2_with fail
  generalize hw : ((w2.alloc _).alloc _) = w3
  have BL : Hid (Below w2.heap.size w2 w3) := by rw [← hw]; exact below_alloc (below_alloc (Below.refl _ _) _) _
  have a0 : At w3 w2.heap.size 0 (.int .i64 (hiOf (a * d))) := by rw [← hw]; exact ⟨by simp; omega, by simp [go_sem], by simp [go_sem]⟩
  have a1 : At w3 w2.heap.size 1 (.int .u64 (loOf (a * d))) := by rw [← hw]; exact ⟨by simp; omega, by simp [go_sem], by simp [go_sem]⟩
  have b0 : At w3 (w2.heap.size + 1) 0 (.int .i64 (hiOf (c * b))) := by rw [← hw]; exact ⟨by simp, by simp [go_sem], by simp [go_sem]⟩
  have b1 : At w3 (w2.heap.size + 1) 1 (.int .u64 (loOf (c * b))) := by rw [← hw]; exact ⟨by simp, by simp [go_sem], by simp [go_sem]⟩
  clear hw
  refine (narrow_any _ _).mono ?_
  rintro e w4 ⟨rfl, hb4⟩
  have HB4 := Lib.hid hb4
  replace a0 := a0.below hb4
  replace a1 := a1.below hb4
  replace b0 := b0.below hb4
  replace b1 := b1.below hb4
  clear hb4
  have ca0 := a0.2.1
  have ca1 := a1.2.1
  have cb0 := b0.2.1
  have cb1 := b1.2.1
  go_wp2_with fail
  refine (narrow_any _ _).mono ?_
  rintro e w5 ⟨rfl, hb5⟩
  have HB5 := Lib.hid hb5
  clear ca0 ca1 cb0 cb1
  replace a0 := a0.below hb5
  replace a1 := a1.below hb5
  replace b0 := b0.below hb5
  replace b1 := b1.below hb5
  clear hb5
  have ca0 := a0.2.1
  have ca1 := a1.2.1
  have cb0 := b0.2.1
  have cb1 := b1.2.1
  go_wp2_with fail
  refine (apart_any _ _ _ (mid_mul HA.out HD.out) (mid_mul HC.out HB.out)).mono ?_
  rintro e w6 ⟨rfl, hb6⟩
  have HB6 := Lib.hid hb6
  clear ca0 ca1 cb0 cb1
  clear a0 a1 b0 b1
  clear hb6
  go_wp2_with fail
  refine (narrow_any _ _).mono ?_
  rintro e w7 ⟨rfl, hb7⟩
  have HB7 := Lib.hid hb7
  clear hb7
  go_wp2_with fail
  refine (mul_any b d _ HB.out HD.out).mono ?_
  rintro e w8 ⟨rfl, hb8⟩
  have HB8 := Lib.hid hb8
  clear hb8
  go_wp2_with fail
  refine (first_any _ _ _ _ _).mono ?_
  change ∀ e w', RetB (.int .i64 (gapE a b c d)) _ e w' → _
  rintro e w9 ⟨rfl, hb9⟩
  have HB9 := Lib.hid hb9
  clear hb9
  have bb := Lib.hid (below3 (below3 (below3 (below3 (below3 (below3 (below3 (below3 HB1.out HB2.out) BL.out) HB4.out) HB5.out) HB6.out) HB7.out) HB8.out) HB9.out)
  go_wp2
  go_ret3
  exact RetB.of rfl bb.out

theorem gap_any (a b c d : Int) (w : World) (ha : Fit a) (hb : Fit b) (hc : Fit c) (hd : Fit d) :
    Calls Try.prog 22 #[.int .i64 a, .int .i64 b, .int .i64 c, .int .i64 d] w (RetB (.tuple #[.int .i64 (gapT a b c d).1, .int .i64 (gapT a b c d).2.1, .int .i64 (gapT a b c d).2.2]) w) := by
  by_cases h1 : b < 1
  · have e1 : gapT a b c d = (0, 0, 1) := if_pos (.inl h1)
    rw [e1]
    clear e1
    clear ha hb hc hd
    go_enter Try.func22, Try.ntmps22
    go_wp2
    go_ret3
    exact RetB.of rfl (Below.refl _ _)
  by_cases h2 : d < 1
  · have e1 : gapT a b c d = (0, 0, 1) := if_pos (.inr h2)
    rw [e1]
    clear e1
    clear ha hb hc hd
    go_enter Try.func22, Try.ntmps22
    go_wp2
    go_ret3
    exact RetB.of rfl (Below.refl _ _)
  have e1 : gapT a b c d = if gapE a b c d = 0 then (dist (a * d) (c * b), b * d, 0) else (0, 0, gapE a b c d) := if_neg (by omega)
  rw [e1]
  by_cases he : gapE a b c d = 0
  · rw [if_pos he]
    exact gap_ok a b c d w ha hb hc hd h1 h2 he
  · rw [if_neg he]
    exact gap_bad a b c d w ha hb hc hd h1 h2 he

end Go.Proofs.Ytaaffpeppdinhaa

/-
  Contracts of calc's own calls: Add, Sub, Mul, Cmp, Gap.
-/
import Derived.Test.YtaaffpeppdinhaaWide2
namespace Go.Proofs.Ytaaffpeppdinhaa
open Go.RowKit

/-- How far two numbers are apart. -/
def dist (a b : Int) : Int := if a < b then b - a else a - b

theorem apart_any (a b : Int) (w : World) (ha : Mid a) (hb : Mid b) :
    Calls Try.prog 37 #[.agg #[.int .i64 (hiOf a), .int .u64 (loOf a)], .agg #[.int .i64 (hiOf b), .int .u64 (loOf b)]] w (RetB (.agg #[.int .i64 (hiOf (dist a b)), .int .u64 (loOf (dist a b))]) w) := by
  by_cases h : a < b
  · have hs : dist a b = b - a := if_pos h
    have hd : decide (a < b) = true := by simpa using h
    have HD := Lib.hid hd
    have HA := Lib.hid ha
    have HB := Lib.hid hb
    rw [hs]
    clear hd hs h ha hb
    go_enter Try.func37, Try.ntmps37
    go_wp2_with (go_at_call 46; refine (less_any a b _).mono ?_; rw [HD.out]; rintro e w1 ⟨rfl, hb1⟩; obtain ⟨hc1, hf1⟩ := keepsB hb1; have hz1 := hb1.size; simp at hz1; have HB1 := Lib.hid hb1; clear hb1)
    refine (minus_any b a _ HB.out HA.out).mono ?_
    rintro e w2 ⟨rfl, hb2⟩
    have HB2 := Lib.hid hb2
    have a0 : At w2 (w.heap.size + 1 + 1) 0 (.int .i64 0) := (At.below ⟨by simp, by simp [go_sem], by simp [go_sem]⟩ HB1.out).below hb2
    have a1 : At w2 (w.heap.size + 1 + 1) 1 (.int .u64 0) := (At.below ⟨by simp, by simp [go_sem], by simp [go_sem]⟩ HB1.out).below hb2
    obtain ⟨-, c0, f0⟩ := a0
    obtain ⟨-, c1, f1⟩ := a1
    clear hb2 hc1 hf1
    go_wp2
    refine bodyPost_ret (v := .agg #[.int .i64 (hiOf (b - a)), .int .u64 (loOf (b - a))]) (by simp [results, Try.results37, go_sem, c0, c1]) rfl (RetB.of rfl ?_)
    exact ((below3 (below3 (below_alloc (below_alloc (below_alloc (Below.refl _ _) _) _) _) HB1.out (by simp)) HB2.out).setCell (by simp; omega) _).setCell (by simp; omega) _
  · have hs : dist a b = a - b := if_neg h
    have hd : decide (a < b) = false := by simpa using h
    have HD := Lib.hid hd
    have HA := Lib.hid ha
    have HB := Lib.hid hb
    rw [hs]
    clear hd hs h ha hb
    go_enter Try.func37, Try.ntmps37
    go_wp2_with (go_at_call 46; refine (less_any a b _).mono ?_; rw [HD.out]; rintro e w1 ⟨rfl, hb1⟩; obtain ⟨hc1, hf1⟩ := keepsB hb1; have hz1 := hb1.size; simp at hz1; have HB1 := Lib.hid hb1; clear hb1)
    refine (minus_any a b _ HA.out HB.out).mono ?_
    rintro e w2 ⟨rfl, hb2⟩
    have HB2 := Lib.hid hb2
    have a0 : At w2 (w.heap.size + 1 + 1) 0 (.int .i64 0) := (At.below ⟨by simp, by simp [go_sem], by simp [go_sem]⟩ HB1.out).below hb2
    have a1 : At w2 (w.heap.size + 1 + 1) 1 (.int .u64 0) := (At.below ⟨by simp, by simp [go_sem], by simp [go_sem]⟩ HB1.out).below hb2
    obtain ⟨-, c0, f0⟩ := a0
    obtain ⟨-, c1, f1⟩ := a1
    clear hb2 hc1 hf1
    go_wp2
    refine bodyPost_ret (v := .agg #[.int .i64 (hiOf (a - b)), .int .u64 (loOf (a - b))]) (by simp [results, Try.results37, go_sem, c0, c1]) rfl (RetB.of rfl ?_)
    exact ((below3 (below3 (below_alloc (below_alloc (below_alloc (Below.refl _ _) _) _) _) HB1.out (by simp)) HB2.out).setCell (by simp; omega) _).setCell (by simp; omega) _

theorem mid_fit {a : Int} (h : Fit a) : Mid a := by unfold Fit at h; unfold Mid; omega

theorem add_any (a b : Int) (w : World) (ha : Fit a) (hb : Fit b) :
    Calls Try.prog 12 #[.int .i64 a, .int .i64 b] w (RetB (.tuple #[.int .i64 (tz (a + b)), .int .i64 (te (a + b))]) w) := by
  have HA := Lib.hid ha
  have HB := Lib.hid hb
  clear ha hb
  go_enter Try.func12, Try.ntmps12
  go_wp2_with fail
  refine (widen_any a _ HA.out).mono ?_
  rintro e w1 ⟨rfl, hb1⟩
  have HB1 := Lib.hid hb1
  clear hb1
  go_wp2_with fail
  refine (widen_any b _ HB.out).mono ?_
  rintro e w2 ⟨rfl, hb2⟩
  have HB2 := Lib.hid hb2
  clear hb2
  go_wp2_with fail
  refine (plus_any a b _ HA.out HB.out).mono ?_
  rintro e w3 ⟨rfl, hb3⟩
  have HB3 := Lib.hid hb3
  clear hb3
  go_wp2_with fail
  refine (narrow_any _ _).mono ?_
  rintro e w4 ⟨rfl, hb4⟩
  have HB4 := Lib.hid hb4
  clear hb4
  go_wp2
  go_ret2
  exact RetB.of rfl (below3 (below3 (below3 HB1.out HB2.out) HB3.out) HB4.out)

theorem sub_any (a b : Int) (w : World) (ha : Fit a) (hb : Fit b) :
    Calls Try.prog 14 #[.int .i64 a, .int .i64 b] w (RetB (.tuple #[.int .i64 (tz (a - b)), .int .i64 (te (a - b))]) w) := by
  have HA := Lib.hid ha
  have HB := Lib.hid hb
  clear ha hb
  go_enter Try.func14, Try.ntmps14
  go_wp2_with fail
  refine (widen_any a _ HA.out).mono ?_
  rintro e w1 ⟨rfl, hb1⟩
  have HB1 := Lib.hid hb1
  clear hb1
  go_wp2_with fail
  refine (widen_any b _ HB.out).mono ?_
  rintro e w2 ⟨rfl, hb2⟩
  have HB2 := Lib.hid hb2
  clear hb2
  go_wp2_with fail
  refine (minus_any a b _ (mid_fit HA.out) (mid_fit HB.out)).mono ?_
  rintro e w3 ⟨rfl, hb3⟩
  have HB3 := Lib.hid hb3
  clear hb3
  go_wp2_with fail
  refine (narrow_any _ _).mono ?_
  rintro e w4 ⟨rfl, hb4⟩
  have HB4 := Lib.hid hb4
  clear hb4
  go_wp2
  go_ret2
  exact RetB.of rfl (below3 (below3 (below3 HB1.out HB2.out) HB3.out) HB4.out)

theorem mul_any (a b : Int) (w : World) (ha : Fit a) (hb : Fit b) :
    Calls Try.prog 16 #[.int .i64 a, .int .i64 b] w (RetB (.tuple #[.int .i64 (tz (a * b)), .int .i64 (te (a * b))]) w) := by
  have HA := Lib.hid ha
  have HB := Lib.hid hb
  clear ha hb
  go_enter Try.func16, Try.ntmps16
  go_wp2_with fail
  refine (times_any a b _ HA.out HB.out).mono ?_
  rintro e w1 ⟨rfl, hb1⟩
  have HB1 := Lib.hid hb1
  clear hb1
  go_wp2_with fail
  refine (narrow_any _ _).mono ?_
  rintro e w2 ⟨rfl, hb2⟩
  have HB2 := Lib.hid hb2
  clear hb2
  go_wp2
  go_ret2
  exact RetB.of rfl (below3 HB1.out HB2.out)

/-- What Cmp tells: the number, the error. -/
def cmpZ (a b c d : Int) : Int := if b < 1 ∨ d < 1 then 0 else sgn (a * d) (c * b)
def cmpE (b d : Int) : Int := if b < 1 ∨ d < 1 then 1 else 0

theorem cmp_any (a b c d : Int) (w : World) (ha : Fit a) (hb : Fit b) (hc : Fit c) (hd : Fit d) :
    Calls Try.prog 20 #[.int .i64 a, .int .i64 b, .int .i64 c, .int .i64 d] w (RetB (.tuple #[.int .i64 (cmpZ a b c d), .int .i64 (cmpE b d)]) w) := by
  have HA := Lib.hid ha
  have HB := Lib.hid hb
  have HC := Lib.hid hc
  have HD := Lib.hid hd
  clear ha hb hc hd
  by_cases h1 : b < 1
  · have e1 : cmpZ a b c d = 0 := if_pos (.inl h1)
    have e2 : cmpE b d = 1 := if_pos (.inl h1)
    rw [e1, e2]
    clear e1 e2
    go_enter Try.func20, Try.ntmps20
    go_wp2
    go_ret2
    exact RetB.of rfl (Below.refl _ _)
  by_cases h2 : d < 1
  · have e1 : cmpZ a b c d = 0 := if_pos (.inr h2)
    have e2 : cmpE b d = 1 := if_pos (.inr h2)
    rw [e1, e2]
    clear e1 e2
    go_enter Try.func20, Try.ntmps20
    go_wp2
    go_ret2
    exact RetB.of rfl (Below.refl _ _)
  have e1 : cmpZ a b c d = sgn (a * d) (c * b) := if_neg (by omega)
  have e2 : cmpE b d = 0 := if_neg (by omega)
  rw [e1, e2]
  clear e1 e2
  go_enter Try.func20, Try.ntmps20
  go_wp2_with fail
  refine (times_any a d _ HA.out HD.out).mono ?_
  rintro e w1 ⟨rfl, hb1⟩
  have HB1 := Lib.hid hb1
  clear hb1
  go_wp2_with fail
  refine (times_any c b _ HC.out HB.out).mono ?_
  rintro e w2 ⟨rfl, hb2⟩
  have HB2 := Lib.hid hb2
  clear hb2
  go_wp2_with fail
  refine (against_any _ _ _).mono ?_
  rintro e w3 ⟨rfl, hb3⟩
  have HB3 := Lib.hid hb3
  clear hb3
  go_wp2
  go_ret2
  exact RetB.of rfl (below3 (below3 HB1.out HB2.out) HB3.out)

end Go.Proofs.Ytaaffpeppdinhaa

/-
  The document's answer of layer 2: the contracts of Sum, Minus, Product, Cmp and Gap.
-/
import Derived.Test.YtaaffpeppdinhaaBigLess
namespace Go.Proofs.Ytaaffpeppdinhaa
open Go.RowKit

theorem big_fit {a : Int} (h : Fit a) : big a ≤ 9223372036854775808 := by unfold Fit at h; unfold big; omega
theorem big_mul {a b : Int} (ha : Fit a) (hb : Fit b) : big (a * b) ≤ 85070591730234615865843651857942052864 := by
  have h1 := big_fit ha
  have h2 := big_fit hb
  unfold big at *
  rw [Int.natAbs_mul]
  have h3 : a.natAbs ≤ 9223372036854775808 := by omega
  have h4 : b.natAbs ≤ 9223372036854775808 := by omega
  have := Nat.mul_le_mul h3 h4
  omega
theorem Big.size {c : Array Value} {z : Int} (h : Big c z) : c.size = 17 := by obtain ⟨m, K, hb, -⟩ := h; exact hb.size
theorem Big.all {c : Array Value} {z : Int} (h : Big c z) : c.all (·.oneCell') = true := by obtain ⟨m, K, hb, -⟩ := h; exact hb.all
theorem small8 {z : Int} (h : big z ≤ 9223372036854775808) : big z < 65536 ^ 8 := by omega

theorem rsum_any (a b : Int) (w : World) (ha : Fit a) (hb : Fit b) :
    Calls Try.prog 13 #[.int .i64 a, .int .i64 b] w (RetB (.tuple #[.int .i64 (tz (a + b)), .int .i64 (te (a + b))]) w) := by
  have HA := Lib.hid ha
  have HB := Lib.hid hb
  clear ha hb
  go_enter Try.func13, Try.ntmps13
  go_wp2_with fail
  refine (of_any a _ HA.out).mono ?_
  rintro e w1 ⟨c1, rfl, g1, hb1⟩
  have G1 := Lib.hid g1
  have HB1 := Lib.hid hb1
  clear g1 hb1
  go_wp2_with fail
  refine (of_any b _ HB.out).mono ?_
  rintro e w2 ⟨c2, rfl, g2, hb2⟩
  have G2 := Lib.hid g2
  have HB2 := Lib.hid hb2
  clear g2 hb2
  go_wp2_with fail
  refine (add_big c1 c2 a b _ G1.out G2.out (by have := big_fit HA.out; have := big_fit HB.out; omega)).mono ?_
  rintro e w3 ⟨c3, rfl, g3, hb3⟩
  have G3 := Lib.hid g3
  have HB3 := Lib.hid hb3
  clear g3 hb3
  go_wp2_with fail
  refine (told_any _ _ _ G3.out).mono ?_
  rintro e w4 ⟨rfl, hb4⟩
  have HB4 := Lib.hid hb4
  clear hb4
  go_wp2
  go_ret2
  exact RetB.of rfl (below3 (below3 (below3 (HB1.out) HB2.out) HB3.out) HB4.out)

theorem rminus_any (a b : Int) (w : World) (ha : Fit a) (hb : Fit b) :
    Calls Try.prog 15 #[.int .i64 a, .int .i64 b] w (RetB (.tuple #[.int .i64 (tz (a + -b)), .int .i64 (te (a + -b))]) w) := by
  have HA := Lib.hid ha
  have HB := Lib.hid hb
  clear ha hb
  go_enter Try.func15, Try.ntmps15
  go_wp2_with fail
  refine (of_any a _ HA.out).mono ?_
  rintro e w1 ⟨c1, rfl, g1, hb1⟩
  have G1 := Lib.hid g1
  have HB1 := Lib.hid hb1
  clear g1 hb1
  go_wp2_with fail
  refine (of_any b _ HB.out).mono ?_
  rintro e w2 ⟨c2, rfl, g2, hb2⟩
  have G2 := Lib.hid g2
  have HB2 := Lib.hid hb2
  clear g2 hb2
  go_wp2_with fail
  refine (neg_any c2 b _ G2.out).mono ?_
  rintro e w3 ⟨c3, rfl, g3, hb3⟩
  have G3 := Lib.hid g3
  have HB3 := Lib.hid hb3
  clear g3 hb3
  go_wp2_with fail
  refine (add_big c1 c3 a (-b) _ G1.out G3.out (by rw [big_neg]; have := big_fit HA.out; have := big_fit HB.out; omega)).mono ?_
  rintro e w4 ⟨c4, rfl, g4, hb4⟩
  have G4 := Lib.hid g4
  have HB4 := Lib.hid hb4
  clear g4 hb4
  go_wp2_with fail
  refine (told_any _ _ _ G4.out).mono ?_
  rintro e w5 ⟨rfl, hb5⟩
  have HB5 := Lib.hid hb5
  clear hb5
  go_wp2
  go_ret2
  exact RetB.of rfl (below3 (below3 (below3 (below3 (HB1.out) HB2.out) HB3.out) HB4.out) HB5.out)

theorem rproduct_any (a b : Int) (w : World) (ha : Fit a) (hb : Fit b) :
    Calls Try.prog 17 #[.int .i64 a, .int .i64 b] w (RetB (.tuple #[.int .i64 (tz (a * b)), .int .i64 (te (a * b))]) w) := by
  have HA := Lib.hid ha
  have HB := Lib.hid hb
  clear ha hb
  go_enter Try.func17, Try.ntmps17
  go_wp2_with fail
  refine (of_any a _ HA.out).mono ?_
  rintro e w1 ⟨c1, rfl, g1, hb1⟩
  have G1 := Lib.hid g1
  have HB1 := Lib.hid hb1
  clear g1 hb1
  go_wp2_with fail
  refine (of_any b _ HB.out).mono ?_
  rintro e w2 ⟨c2, rfl, g2, hb2⟩
  have G2 := Lib.hid g2
  have HB2 := Lib.hid hb2
  clear g2 hb2
  go_wp2_with fail
  refine (mul_big c1 c2 a b _ G1.out G2.out (small8 (big_fit HA.out)) (small8 (big_fit HB.out))).mono ?_
  rintro e w3 ⟨c3, rfl, g3, hb3⟩
  have G3 := Lib.hid g3
  have HB3 := Lib.hid hb3
  clear g3 hb3
  go_wp2_with fail
  refine (told_any _ _ _ G3.out).mono ?_
  rintro e w4 ⟨rfl, hb4⟩
  have HB4 := Lib.hid hb4
  clear hb4
  go_wp2
  go_ret2
  exact RetB.of rfl (below3 (below3 (below3 (HB1.out) HB2.out) HB3.out) HB4.out)

theorem rcmp_lt (a b c d : Int) (w : World) (ha : Fit a) (hb : Fit b) (hc : Fit c) (hd : Fit d) (h1 : 1 ≤ b) (h2 : 1 ≤ d) (h : a * d < c * b) :
    Calls Try.prog 21 #[.int .i64 a, .int .i64 b, .int .i64 c, .int .i64 d] w (RetB (.tuple #[.int .i64 (-1), .int .i64 0]) w) := by
  have HA := Lib.hid ha
  have HB := Lib.hid hb
  have HC := Lib.hid hc
  have HD := Lib.hid hd
  have L1 := Lib.hid (show decide (a * d < c * b) = true by simp; omega)
  have L2 := Lib.hid (show decide (c * b < a * d) = false by simp; omega)
  clear ha hb hc hd h
  go_enter Try.func21, Try.ntmps21
  go_wp2_with fail
  refine (of_any a _ HA.out).mono ?_
  rintro e w1 ⟨c1, rfl, g1, hb1⟩
  have G1 := Lib.hid g1
  have HB1 := Lib.hid hb1
  have BB1 := HB1
  clear g1 hb1
  go_wp2_with fail
  refine (of_any d _ HD.out).mono ?_
  rintro e w2 ⟨c2, rfl, g2, hb2⟩
  have G2 := Lib.hid g2
  have HB2 := Lib.hid hb2
  have BB2 := Lib.hid (below3 BB1.out HB2.out)
  clear g2 hb2
  go_wp2_with fail
  refine (mul_big c1 c2 a d _ G1.out G2.out (small8 (big_fit HA.out)) (small8 (big_fit HD.out))).mono ?_
  rintro e w3 ⟨c3, rfl, g3, hb3⟩
  have G3 := Lib.hid g3
  have HB3 := Lib.hid hb3
  have BB3 := Lib.hid (below3 BB2.out HB3.out)
  clear g3 hb3
  have HS3 := Lib.hid G3.out.size
  have HA3 := Lib.hid G3.out.all
  go_wp2_with (first | (refine wpl_store rfl (.tmp 10) (.tmp 22) rfl _ rfl rfl (Bk.new _ _ _) (by rfl) HS3.out HA3.out ?_; rw [World.setRow_alloc_new]) | fail)
  refine (of_any c _ HC.out).mono ?_
  rintro e w4 ⟨c4, rfl, g4, hb4⟩
  have G4 := Lib.hid g4
  have HB4 := Lib.hid hb4
  have BB4 := Lib.hid (below3 (below_alloc BB3.out _) HB4.out (by simp))
  clear g4 hb4
  go_wp2_with fail
  refine (of_any b _ HB.out).mono ?_
  rintro e w5 ⟨c5, rfl, g5, hb5⟩
  have G5 := Lib.hid g5
  have HB5 := Lib.hid hb5
  have BB5 := Lib.hid (below3 BB4.out HB5.out)
  clear g5 hb5
  go_wp2_with fail
  refine (mul_big c4 c5 c b _ G4.out G5.out (small8 (big_fit HC.out)) (small8 (big_fit HB.out))).mono ?_
  rintro e w6 ⟨c6, rfl, g6, hb6⟩
  have G6 := Lib.hid g6
  have HB6 := Lib.hid hb6
  have BB6 := Lib.hid (below3 BB5.out HB6.out)
  clear g6 hb6
  have HS6 := Lib.hid G6.out.size
  have HA6 := Lib.hid G6.out.all
  have kx : Bk (w6.alloc (.cells c6 44)) w3.heap.size 44 c3 := ((((Bk.new w3 44 c3).below HB4.out (by simp)).below HB5.out (by have := HB4.out.size; simp at this; omega)).below HB6.out (by have := HB4.out.size; have := HB5.out.size; simp at *; omega)).alloc _
  have ky := Bk.new w6 44 c6
  go_wp2_with (first | (refine wpl_store rfl (.tmp 11) (.tmp 27) rfl _ rfl rfl (Bk.new _ _ _) (by rfl) HS6.out HA6.out ?_; rw [World.setRow_alloc_new]) | (refine wpl_load rfl (.tmp 10) rfl _ rfl kx HS3.out ?_) | (refine wpl_load rfl (.tmp 11) rfl _ rfl ky HS6.out ?_) | fail)
  refine (less_big c3 c6 (a * d) (c * b) _ G3.out G6.out (by have := big_mul HA.out HD.out; have := big_mul HC.out HB.out; omega)).mono ?_
  rw [L1.out]
  rintro e w7 ⟨rfl, hb7⟩
  have HB7 := Lib.hid hb7
  have BB7 := Lib.hid (below3 (below_alloc BB6.out _) HB7.out (by simp))
  clear hb7
  go_wp2
  go_ret2
  exact RetB.of rfl BB7.out

theorem rcmp_eq (a b c d : Int) (w : World) (ha : Fit a) (hb : Fit b) (hc : Fit c) (hd : Fit d) (h1 : 1 ≤ b) (h2 : 1 ≤ d) (h : a * d = c * b) :
    Calls Try.prog 21 #[.int .i64 a, .int .i64 b, .int .i64 c, .int .i64 d] w (RetB (.tuple #[.int .i64 (0), .int .i64 0]) w) := by
  have HA := Lib.hid ha
  have HB := Lib.hid hb
  have HC := Lib.hid hc
  have HD := Lib.hid hd
  have L1 := Lib.hid (show decide (a * d < c * b) = false by simp; omega)
  have L2 := Lib.hid (show decide (c * b < a * d) = false by simp; omega)
  clear ha hb hc hd h
  go_enter Try.func21, Try.ntmps21
  go_wp2_with fail
  refine (of_any a _ HA.out).mono ?_
  rintro e w1 ⟨c1, rfl, g1, hb1⟩
  have G1 := Lib.hid g1
  have HB1 := Lib.hid hb1
  have BB1 := HB1
  clear g1 hb1
  go_wp2_with fail
  refine (of_any d _ HD.out).mono ?_
  rintro e w2 ⟨c2, rfl, g2, hb2⟩
  have G2 := Lib.hid g2
  have HB2 := Lib.hid hb2
  have BB2 := Lib.hid (below3 BB1.out HB2.out)
  clear g2 hb2
  go_wp2_with fail
  refine (mul_big c1 c2 a d _ G1.out G2.out (small8 (big_fit HA.out)) (small8 (big_fit HD.out))).mono ?_
  rintro e w3 ⟨c3, rfl, g3, hb3⟩
  have G3 := Lib.hid g3
  have HB3 := Lib.hid hb3
  have BB3 := Lib.hid (below3 BB2.out HB3.out)
  clear g3 hb3
  have HS3 := Lib.hid G3.out.size
  have HA3 := Lib.hid G3.out.all
  go_wp2_with (first | (refine wpl_store rfl (.tmp 10) (.tmp 22) rfl _ rfl rfl (Bk.new _ _ _) (by rfl) HS3.out HA3.out ?_; rw [World.setRow_alloc_new]) | fail)
  refine (of_any c _ HC.out).mono ?_
  rintro e w4 ⟨c4, rfl, g4, hb4⟩
  have G4 := Lib.hid g4
  have HB4 := Lib.hid hb4
  have BB4 := Lib.hid (below3 (below_alloc BB3.out _) HB4.out (by simp))
  clear g4 hb4
  go_wp2_with fail
  refine (of_any b _ HB.out).mono ?_
  rintro e w5 ⟨c5, rfl, g5, hb5⟩
  have G5 := Lib.hid g5
  have HB5 := Lib.hid hb5
  have BB5 := Lib.hid (below3 BB4.out HB5.out)
  clear g5 hb5
  go_wp2_with fail
  refine (mul_big c4 c5 c b _ G4.out G5.out (small8 (big_fit HC.out)) (small8 (big_fit HB.out))).mono ?_
  rintro e w6 ⟨c6, rfl, g6, hb6⟩
  have G6 := Lib.hid g6
  have HB6 := Lib.hid hb6
  have BB6 := Lib.hid (below3 BB5.out HB6.out)
  clear g6 hb6
  have HS6 := Lib.hid G6.out.size
  have HA6 := Lib.hid G6.out.all
  have kx : Bk (w6.alloc (.cells c6 44)) w3.heap.size 44 c3 := ((((Bk.new w3 44 c3).below HB4.out (by simp)).below HB5.out (by have := HB4.out.size; simp at this; omega)).below HB6.out (by have := HB4.out.size; have := HB5.out.size; simp at *; omega)).alloc _
  have ky := Bk.new w6 44 c6
  go_wp2_with (first | (refine wpl_store rfl (.tmp 11) (.tmp 27) rfl _ rfl rfl (Bk.new _ _ _) (by rfl) HS6.out HA6.out ?_; rw [World.setRow_alloc_new]) | (refine wpl_load rfl (.tmp 10) rfl _ rfl kx HS3.out ?_) | (refine wpl_load rfl (.tmp 11) rfl _ rfl ky HS6.out ?_) | fail)
  refine (less_big c3 c6 (a * d) (c * b) _ G3.out G6.out (by have := big_mul HA.out HD.out; have := big_mul HC.out HB.out; omega)).mono ?_
  rw [L1.out]
  rintro e w7 ⟨rfl, hb7⟩
  have HB7 := Lib.hid hb7
  have BB7 := Lib.hid (below3 (below_alloc BB6.out _) HB7.out (by simp))
  clear hb7
  have kx7 := kx.below HB7.out kx.lt
  have ky7 := ky.below HB7.out ky.lt
  clear kx ky
  go_wp2_with (first | (refine wpl_load rfl (.tmp 10) rfl _ rfl kx7 HS3.out ?_) | (refine wpl_load rfl (.tmp 11) rfl _ rfl ky7 HS6.out ?_) | fail)
  refine (less_big c6 c3 (c * b) (a * d) _ G6.out G3.out (by have := big_mul HA.out HD.out; have := big_mul HC.out HB.out; omega)).mono ?_
  rw [L2.out]
  rintro e w8 ⟨rfl, hb8⟩
  have HB8 := Lib.hid hb8
  have BB8 := Lib.hid (below3 BB7.out HB8.out)
  clear hb8
  go_wp2
  go_ret2
  exact RetB.of rfl BB8.out

theorem rcmp_gt (a b c d : Int) (w : World) (ha : Fit a) (hb : Fit b) (hc : Fit c) (hd : Fit d) (h1 : 1 ≤ b) (h2 : 1 ≤ d) (h : c * b < a * d) :
    Calls Try.prog 21 #[.int .i64 a, .int .i64 b, .int .i64 c, .int .i64 d] w (RetB (.tuple #[.int .i64 (1), .int .i64 0]) w) := by
  have HA := Lib.hid ha
  have HB := Lib.hid hb
  have HC := Lib.hid hc
  have HD := Lib.hid hd
  have L1 := Lib.hid (show decide (a * d < c * b) = false by simp; omega)
  have L2 := Lib.hid (show decide (c * b < a * d) = true by simp; omega)
  clear ha hb hc hd h
  go_enter Try.func21, Try.ntmps21
  go_wp2_with fail
  refine (of_any a _ HA.out).mono ?_
  rintro e w1 ⟨c1, rfl, g1, hb1⟩
  have G1 := Lib.hid g1
  have HB1 := Lib.hid hb1
  have BB1 := HB1
  clear g1 hb1
  go_wp2_with fail
  refine (of_any d _ HD.out).mono ?_
  rintro e w2 ⟨c2, rfl, g2, hb2⟩
  have G2 := Lib.hid g2
  have HB2 := Lib.hid hb2
  have BB2 := Lib.hid (below3 BB1.out HB2.out)
  clear g2 hb2
  go_wp2_with fail
  refine (mul_big c1 c2 a d _ G1.out G2.out (small8 (big_fit HA.out)) (small8 (big_fit HD.out))).mono ?_
  rintro e w3 ⟨c3, rfl, g3, hb3⟩
  have G3 := Lib.hid g3
  have HB3 := Lib.hid hb3
  have BB3 := Lib.hid (below3 BB2.out HB3.out)
  clear g3 hb3
  have HS3 := Lib.hid G3.out.size
  have HA3 := Lib.hid G3.out.all
  go_wp2_with (first | (refine wpl_store rfl (.tmp 10) (.tmp 22) rfl _ rfl rfl (Bk.new _ _ _) (by rfl) HS3.out HA3.out ?_; rw [World.setRow_alloc_new]) | fail)
  refine (of_any c _ HC.out).mono ?_
  rintro e w4 ⟨c4, rfl, g4, hb4⟩
  have G4 := Lib.hid g4
  have HB4 := Lib.hid hb4
  have BB4 := Lib.hid (below3 (below_alloc BB3.out _) HB4.out (by simp))
  clear g4 hb4
  go_wp2_with fail
  refine (of_any b _ HB.out).mono ?_
  rintro e w5 ⟨c5, rfl, g5, hb5⟩
  have G5 := Lib.hid g5
  have HB5 := Lib.hid hb5
  have BB5 := Lib.hid (below3 BB4.out HB5.out)
  clear g5 hb5
  go_wp2_with fail
  refine (mul_big c4 c5 c b _ G4.out G5.out (small8 (big_fit HC.out)) (small8 (big_fit HB.out))).mono ?_
  rintro e w6 ⟨c6, rfl, g6, hb6⟩
  have G6 := Lib.hid g6
  have HB6 := Lib.hid hb6
  have BB6 := Lib.hid (below3 BB5.out HB6.out)
  clear g6 hb6
  have HS6 := Lib.hid G6.out.size
  have HA6 := Lib.hid G6.out.all
  have kx : Bk (w6.alloc (.cells c6 44)) w3.heap.size 44 c3 := ((((Bk.new w3 44 c3).below HB4.out (by simp)).below HB5.out (by have := HB4.out.size; simp at this; omega)).below HB6.out (by have := HB4.out.size; have := HB5.out.size; simp at *; omega)).alloc _
  have ky := Bk.new w6 44 c6
  go_wp2_with (first | (refine wpl_store rfl (.tmp 11) (.tmp 27) rfl _ rfl rfl (Bk.new _ _ _) (by rfl) HS6.out HA6.out ?_; rw [World.setRow_alloc_new]) | (refine wpl_load rfl (.tmp 10) rfl _ rfl kx HS3.out ?_) | (refine wpl_load rfl (.tmp 11) rfl _ rfl ky HS6.out ?_) | fail)
  refine (less_big c3 c6 (a * d) (c * b) _ G3.out G6.out (by have := big_mul HA.out HD.out; have := big_mul HC.out HB.out; omega)).mono ?_
  rw [L1.out]
  rintro e w7 ⟨rfl, hb7⟩
  have HB7 := Lib.hid hb7
  have BB7 := Lib.hid (below3 (below_alloc BB6.out _) HB7.out (by simp))
  clear hb7
  have kx7 := kx.below HB7.out kx.lt
  have ky7 := ky.below HB7.out ky.lt
  clear kx ky
  go_wp2_with (first | (refine wpl_load rfl (.tmp 10) rfl _ rfl kx7 HS3.out ?_) | (refine wpl_load rfl (.tmp 11) rfl _ rfl ky7 HS6.out ?_) | fail)
  refine (less_big c6 c3 (c * b) (a * d) _ G6.out G3.out (by have := big_mul HA.out HD.out; have := big_mul HC.out HB.out; omega)).mono ?_
  rw [L2.out]
  rintro e w8 ⟨rfl, hb8⟩
  have HB8 := Lib.hid hb8
  have BB8 := Lib.hid (below3 BB7.out HB8.out)
  clear hb8
  go_wp2
  go_ret2
  exact RetB.of rfl BB8.out

theorem rcmp_any (a b c d : Int) (w : World) (ha : Fit a) (hb : Fit b) (hc : Fit c) (hd : Fit d) :
    Calls Try.prog 21 #[.int .i64 a, .int .i64 b, .int .i64 c, .int .i64 d] w (RetB (.tuple #[.int .i64 (cmpZ a b c d), .int .i64 (cmpE b d)]) w) := by
  by_cases h1 : b < 1
  · have e1 : cmpZ a b c d = 0 := if_pos (.inl h1)
    have e2 : cmpE b d = 1 := if_pos (.inl h1)
    rw [e1, e2]
    clear e1 e2 ha hb hc hd
    go_enter Try.func21, Try.ntmps21
    go_wp2
    go_ret2
    exact RetB.of rfl (Below.refl _ _)
  by_cases h2 : d < 1
  · have e1 : cmpZ a b c d = 0 := if_pos (.inr h2)
    have e2 : cmpE b d = 1 := if_pos (.inr h2)
    rw [e1, e2]
    clear e1 e2 ha hb hc hd
    go_enter Try.func21, Try.ntmps21
    go_wp2
    go_ret2
    exact RetB.of rfl (Below.refl _ _)
  have e1 : cmpZ a b c d = sgn (a * d) (c * b) := if_neg (by omega)
  have e2 : cmpE b d = 0 := if_neg (by omega)
  rw [e1, e2]
  rcases sgn_cases (a * d) (c * b) with ⟨h, h'⟩ | ⟨h, h'⟩ | ⟨h, h'⟩ <;> rw [h]
  · exact rcmp_lt a b c d w ha hb hc hd (by omega) (by omega) h'
  · exact rcmp_eq a b c d w ha hb hc hd (by omega) (by omega) h'
  · exact rcmp_gt a b c d w ha hb hc hd (by omega) (by omega) h'

theorem rproduct_as (a b c : Int) (w : World) (ha : Fit a) (hb : Fit b) (h : Fit c) (hc : a * b = c) :
    Calls Try.prog 17 #[.int .i64 a, .int .i64 b] w (RetB (.tuple #[.int .i64 c, .int .i64 0]) w) := by
  subst hc
  have := rproduct_any a b w ha hb
  rwa [show tz (a * b) = a * b from if_pos h, show te (a * b) = 0 from if_pos h] at this
theorem rproduct_no (a b : Int) (w : World) (ha : Fit a) (hb : Fit b) (h : ¬ Fit (a * b)) :
    Calls Try.prog 17 #[.int .i64 a, .int .i64 b] w (RetB (.tuple #[.int .i64 0, .int .i64 4]) w) := by
  have := rproduct_any a b w ha hb
  rwa [show tz (a * b) = 0 from if_neg h, show te (a * b) = 4 from if_neg h] at this

theorem rminus_as (a b c : Int) (w : World) (ha : Fit a) (hb : Fit b) (h : Fit c) (hc : a + -b = c) :
    Calls Try.prog 15 #[.int .i64 a, .int .i64 b] w (RetB (.tuple #[.int .i64 c, .int .i64 0]) w) := by
  subst hc
  have := rminus_any a b w ha hb
  rwa [show tz (a + -b) = a + -b from if_pos h, show te (a + -b) = 0 from if_pos h] at this
theorem rminus_no (a b : Int) (w : World) (ha : Fit a) (hb : Fit b) (h : ¬ Fit (a + -b)) :
    Calls Try.prog 15 #[.int .i64 a, .int .i64 b] w (RetB (.tuple #[.int .i64 0, .int .i64 4]) w) := by
  have := rminus_any a b w ha hb
  rwa [show tz (a + -b) = 0 from if_neg h, show te (a + -b) = 4 from if_neg h] at this

theorem rgap_1 (a b c d : Int) (w : World) (ha : Fit a) (hb : Fit b) (hc : Fit c) (hd : Fit d) (h1 : 1 ≤ b) (h2 : 1 ≤ d) (hx : ¬ Fit (a * d)) :
    Calls Try.prog 23 #[.int .i64 a, .int .i64 b, .int .i64 c, .int .i64 d] w (RetB (.tuple #[.int .i64 0, .int .i64 0, .int .i64 4]) w) := by
  have HA := Lib.hid ha
  have HB := Lib.hid hb
  have HC := Lib.hid hc
  have HD := Lib.hid hd
  have HX := Lib.hid hx
  clear ha hb hc hd hx
  go_enter Try.func23, Try.ntmps23
  go_wp2_with fail
  refine (rproduct_no a d _ HA.out HD.out HX.out).mono ?_
  rintro e w1 ⟨rfl, hb1⟩
  have HB1 := Lib.hid hb1
  clear hb1
  go_wp2_with fail
  refine (rproduct_any c b _ HC.out HB.out).mono ?_
  rintro e w2 ⟨rfl, hb2⟩
  have HB2 := Lib.hid hb2
  clear hb2
  go_wp2_with fail
  refine (rproduct_any b d _ HB.out HD.out).mono ?_
  rintro e w3 ⟨rfl, hb3⟩
  have HB3 := Lib.hid hb3
  clear hb3
  go_wp2
  go_ret3
  exact RetB.of rfl (below3 (below3 (HB1.out) HB2.out) HB3.out)

theorem rgap_2 (a b c d x : Int) (w : World) (ha : Fit a) (hb : Fit b) (hc : Fit c) (hd : Fit d) (h1 : 1 ≤ b) (h2 : 1 ≤ d) (hx : Fit x) (ex : a * d = x) (hy : ¬ Fit (c * b)) :
    Calls Try.prog 23 #[.int .i64 a, .int .i64 b, .int .i64 c, .int .i64 d] w (RetB (.tuple #[.int .i64 0, .int .i64 0, .int .i64 4]) w) := by
  have HA := Lib.hid ha
  have HB := Lib.hid hb
  have HC := Lib.hid hc
  have HD := Lib.hid hd
  have HX := Lib.hid hx
  have EX := Lib.hid ex
  have HY := Lib.hid hy
  clear ha hb hc hd hx ex hy
  go_enter Try.func23, Try.ntmps23
  go_wp2_with fail
  refine (rproduct_as a d x _ HA.out HD.out HX.out EX.out).mono ?_
  rintro e w1 ⟨rfl, hb1⟩
  have HB1 := Lib.hid hb1
  clear hb1
  go_wp2_with fail
  refine (rproduct_no c b _ HC.out HB.out HY.out).mono ?_
  rintro e w2 ⟨rfl, hb2⟩
  have HB2 := Lib.hid hb2
  clear hb2
  go_wp2_with fail
  refine (rproduct_any b d _ HB.out HD.out).mono ?_
  rintro e w3 ⟨rfl, hb3⟩
  have HB3 := Lib.hid hb3
  clear hb3
  go_wp2
  go_ret3
  exact RetB.of rfl (below3 (below3 (HB1.out) HB2.out) HB3.out)

theorem rgap_3 (a b c d x y : Int) (w : World) (ha : Fit a) (hb : Fit b) (hc : Fit c) (hd : Fit d) (h1 : 1 ≤ b) (h2 : 1 ≤ d) (hx : Fit x) (ex : a * d = x) (hy : Fit y) (ey : c * b = y) (hz : ¬ Fit (b * d)) :
    Calls Try.prog 23 #[.int .i64 a, .int .i64 b, .int .i64 c, .int .i64 d] w (RetB (.tuple #[.int .i64 0, .int .i64 0, .int .i64 4]) w) := by
  have HA := Lib.hid ha
  have HB := Lib.hid hb
  have HC := Lib.hid hc
  have HD := Lib.hid hd
  have HX := Lib.hid hx
  have EX := Lib.hid ex
  have HY := Lib.hid hy
  have EY := Lib.hid ey
  have HZ := Lib.hid hz
  clear ha hb hc hd hx ex hy ey hz
  go_enter Try.func23, Try.ntmps23
  go_wp2_with fail
  refine (rproduct_as a d x _ HA.out HD.out HX.out EX.out).mono ?_
  rintro e w1 ⟨rfl, hb1⟩
  have HB1 := Lib.hid hb1
  clear hb1
  go_wp2_with fail
  refine (rproduct_as c b y _ HC.out HB.out HY.out EY.out).mono ?_
  rintro e w2 ⟨rfl, hb2⟩
  have HB2 := Lib.hid hb2
  clear hb2
  go_wp2_with fail
  refine (rproduct_no b d _ HB.out HD.out HZ.out).mono ?_
  rintro e w3 ⟨rfl, hb3⟩
  have HB3 := Lib.hid hb3
  clear hb3
  go_wp2
  go_ret3
  exact RetB.of rfl (below3 (below3 (HB1.out) HB2.out) HB3.out)

theorem rgap_lt_no (a b c d x y z : Int) (w : World) (ha : Fit a) (hb : Fit b) (hc : Fit c) (hd : Fit d) (h1 : 1 ≤ b) (h2 : 1 ≤ d) (hx : Fit x) (ex : a * d = x) (hy : Fit y) (ey : c * b = y) (hz : Fit z) (ez : b * d = z) (hl : x < y) (hn : ¬ Fit (y + -x)) :
    Calls Try.prog 23 #[.int .i64 a, .int .i64 b, .int .i64 c, .int .i64 d] w (RetB (.tuple #[.int .i64 0, .int .i64 0, .int .i64 4]) w) := by
  have HA := Lib.hid ha
  have HB := Lib.hid hb
  have HC := Lib.hid hc
  have HD := Lib.hid hd
  have HX := Lib.hid hx
  have EX := Lib.hid ex
  have HY := Lib.hid hy
  have EY := Lib.hid ey
  have HZ := Lib.hid hz
  have EZ := Lib.hid ez
  have HN := Lib.hid hn
  clear ha hb hc hd hx ex hy ey hz ez hn
  go_enter Try.func23, Try.ntmps23
  go_wp2_with fail
  refine (rproduct_as a d x _ HA.out HD.out HX.out EX.out).mono ?_
  rintro e w1 ⟨rfl, hb1⟩
  have HB1 := Lib.hid hb1
  clear hb1
  go_wp2_with fail
  refine (rproduct_as c b y _ HC.out HB.out HY.out EY.out).mono ?_
  rintro e w2 ⟨rfl, hb2⟩
  have HB2 := Lib.hid hb2
  clear hb2
  go_wp2_with fail
  refine (rproduct_as b d z _ HB.out HD.out HZ.out EZ.out).mono ?_
  rintro e w3 ⟨rfl, hb3⟩
  have HB3 := Lib.hid hb3
  clear hb3
  go_wp2_with fail
  refine (rminus_no y x _ HY.out HX.out HN.out).mono ?_
  rintro e w4 ⟨rfl, hb4⟩
  have HB4 := Lib.hid hb4
  clear hb4
  go_wp2
  go_ret3
  exact RetB.of rfl (below3 (below3 (below3 (HB1.out) HB2.out) HB3.out) HB4.out)

theorem rgap_lt_ok (a b c d x y z n : Int) (w : World) (ha : Fit a) (hb : Fit b) (hc : Fit c) (hd : Fit d) (h1 : 1 ≤ b) (h2 : 1 ≤ d) (hx : Fit x) (ex : a * d = x) (hy : Fit y) (ey : c * b = y) (hz : Fit z) (ez : b * d = z) (hl : x < y) (hn : Fit n) (en : y + -x = n) :
    Calls Try.prog 23 #[.int .i64 a, .int .i64 b, .int .i64 c, .int .i64 d] w (RetB (.tuple #[.int .i64 n, .int .i64 z, .int .i64 0]) w) := by
  have HA := Lib.hid ha
  have HB := Lib.hid hb
  have HC := Lib.hid hc
  have HD := Lib.hid hd
  have HX := Lib.hid hx
  have EX := Lib.hid ex
  have HY := Lib.hid hy
  have EY := Lib.hid ey
  have HZ := Lib.hid hz
  have EZ := Lib.hid ez
  have HN := Lib.hid hn
  have EN := Lib.hid en
  clear ha hb hc hd hx ex hy ey hz ez hn en
  go_enter Try.func23, Try.ntmps23
  go_wp2_with fail
  refine (rproduct_as a d x _ HA.out HD.out HX.out EX.out).mono ?_
  rintro e w1 ⟨rfl, hb1⟩
  have HB1 := Lib.hid hb1
  clear hb1
  go_wp2_with fail
  refine (rproduct_as c b y _ HC.out HB.out HY.out EY.out).mono ?_
  rintro e w2 ⟨rfl, hb2⟩
  have HB2 := Lib.hid hb2
  clear hb2
  go_wp2_with fail
  refine (rproduct_as b d z _ HB.out HD.out HZ.out EZ.out).mono ?_
  rintro e w3 ⟨rfl, hb3⟩
  have HB3 := Lib.hid hb3
  clear hb3
  go_wp2_with fail
  refine (rminus_as y x n _ HY.out HX.out HN.out EN.out).mono ?_
  rintro e w4 ⟨rfl, hb4⟩
  have HB4 := Lib.hid hb4
  clear hb4
  go_wp2
  go_ret3
  exact RetB.of rfl (below3 (below3 (below3 (HB1.out) HB2.out) HB3.out) HB4.out)

theorem rgap_ge_no (a b c d x y z : Int) (w : World) (ha : Fit a) (hb : Fit b) (hc : Fit c) (hd : Fit d) (h1 : 1 ≤ b) (h2 : 1 ≤ d) (hx : Fit x) (ex : a * d = x) (hy : Fit y) (ey : c * b = y) (hz : Fit z) (ez : b * d = z) (hl : y ≤ x) (hn : ¬ Fit (x + -y)) :
    Calls Try.prog 23 #[.int .i64 a, .int .i64 b, .int .i64 c, .int .i64 d] w (RetB (.tuple #[.int .i64 0, .int .i64 0, .int .i64 4]) w) := by
  have HA := Lib.hid ha
  have HB := Lib.hid hb
  have HC := Lib.hid hc
  have HD := Lib.hid hd
  have HX := Lib.hid hx
  have EX := Lib.hid ex
  have HY := Lib.hid hy
  have EY := Lib.hid ey
  have HZ := Lib.hid hz
  have EZ := Lib.hid ez
  have HN := Lib.hid hn
  clear ha hb hc hd hx ex hy ey hz ez hn
  go_enter Try.func23, Try.ntmps23
  go_wp2_with fail
  refine (rproduct_as a d x _ HA.out HD.out HX.out EX.out).mono ?_
  rintro e w1 ⟨rfl, hb1⟩
  have HB1 := Lib.hid hb1
  clear hb1
  go_wp2_with fail
  refine (rproduct_as c b y _ HC.out HB.out HY.out EY.out).mono ?_
  rintro e w2 ⟨rfl, hb2⟩
  have HB2 := Lib.hid hb2
  clear hb2
  go_wp2_with fail
  refine (rproduct_as b d z _ HB.out HD.out HZ.out EZ.out).mono ?_
  rintro e w3 ⟨rfl, hb3⟩
  have HB3 := Lib.hid hb3
  clear hb3
  go_wp2_with fail
  refine (rminus_no x y _ HX.out HY.out HN.out).mono ?_
  rintro e w4 ⟨rfl, hb4⟩
  have HB4 := Lib.hid hb4
  clear hb4
  go_wp2
  go_ret3
  exact RetB.of rfl (below3 (below3 (below3 (HB1.out) HB2.out) HB3.out) HB4.out)

theorem rgap_ge_ok (a b c d x y z n : Int) (w : World) (ha : Fit a) (hb : Fit b) (hc : Fit c) (hd : Fit d) (h1 : 1 ≤ b) (h2 : 1 ≤ d) (hx : Fit x) (ex : a * d = x) (hy : Fit y) (ey : c * b = y) (hz : Fit z) (ez : b * d = z) (hl : y ≤ x) (hn : Fit n) (en : x + -y = n) :
    Calls Try.prog 23 #[.int .i64 a, .int .i64 b, .int .i64 c, .int .i64 d] w (RetB (.tuple #[.int .i64 n, .int .i64 z, .int .i64 0]) w) := by
  have HA := Lib.hid ha
  have HB := Lib.hid hb
  have HC := Lib.hid hc
  have HD := Lib.hid hd
  have HX := Lib.hid hx
  have EX := Lib.hid ex
  have HY := Lib.hid hy
  have EY := Lib.hid ey
  have HZ := Lib.hid hz
  have EZ := Lib.hid ez
  have HN := Lib.hid hn
  have EN := Lib.hid en
  clear ha hb hc hd hx ex hy ey hz ez hn en
  go_enter Try.func23, Try.ntmps23
  go_wp2_with fail
  refine (rproduct_as a d x _ HA.out HD.out HX.out EX.out).mono ?_
  rintro e w1 ⟨rfl, hb1⟩
  have HB1 := Lib.hid hb1
  clear hb1
  go_wp2_with fail
  refine (rproduct_as c b y _ HC.out HB.out HY.out EY.out).mono ?_
  rintro e w2 ⟨rfl, hb2⟩
  have HB2 := Lib.hid hb2
  clear hb2
  go_wp2_with fail
  refine (rproduct_as b d z _ HB.out HD.out HZ.out EZ.out).mono ?_
  rintro e w3 ⟨rfl, hb3⟩
  have HB3 := Lib.hid hb3
  clear hb3
  go_wp2_with fail
  refine (rminus_as x y n _ HX.out HY.out HN.out EN.out).mono ?_
  rintro e w4 ⟨rfl, hb4⟩
  have HB4 := Lib.hid hb4
  clear hb4
  go_wp2
  go_ret3
  exact RetB.of rfl (below3 (below3 (below3 (HB1.out) HB2.out) HB3.out) HB4.out)

theorem gapE_4 {a b c d : Int} (h : ¬ Fit (a * d) ∨ ¬ Fit (c * b) ∨ ¬ Fit (dist (a * d) (c * b)) ∨ ¬ Fit (b * d)) : gapE a b c d = 4 := by
  unfold gapE first4
  rcases te_cases (a * d) with h1 | h1 <;> rcases te_cases (c * b) with h2 | h2 <;> rcases te_cases (dist (a * d) (c * b)) with h3 | h3 <;> rcases te_cases (b * d) with h4 | h4 <;> simp [h1.1, h2.1, h3.1, h4.1]
  exact absurd h (by simp [h1.2.1, h2.2.1, h3.2.1, h4.2.1])
theorem gapE_0 {a b c d : Int} (h1 : Fit (a * d)) (h2 : Fit (c * b)) (h3 : Fit (dist (a * d) (c * b))) (h4 : Fit (b * d)) : gapE a b c d = 0 := by
  unfold gapE first4
  simp [show te (a * d) = 0 from if_pos h1, show te (c * b) = 0 from if_pos h2, show te (dist (a * d) (c * b)) = 0 from if_pos h3, show te (b * d) = 0 from if_pos h4]

theorem rgap_any (a b c d : Int) (w : World) (ha : Fit a) (hb : Fit b) (hc : Fit c) (hd : Fit d) :
    Calls Try.prog 23 #[.int .i64 a, .int .i64 b, .int .i64 c, .int .i64 d] w (RetB (.tuple #[.int .i64 (gapT a b c d).1, .int .i64 (gapT a b c d).2.1, .int .i64 (gapT a b c d).2.2]) w) := by
  by_cases h1 : b < 1
  · have e1 : gapT a b c d = (0, 0, 1) := if_pos (.inl h1)
    rw [e1]
    clear e1 ha hb hc hd
    go_enter Try.func23, Try.ntmps23
    go_wp2
    go_ret3
    exact RetB.of rfl (Below.refl _ _)
  by_cases h2 : d < 1
  · have e1 : gapT a b c d = (0, 0, 1) := if_pos (.inr h2)
    rw [e1]
    clear e1 ha hb hc hd
    go_enter Try.func23, Try.ntmps23
    go_wp2
    go_ret3
    exact RetB.of rfl (Below.refl _ _)
  have e1 : gapT a b c d = if gapE a b c d = 0 then (dist (a * d) (c * b), b * d, 0) else (0, 0, gapE a b c d) := if_neg (by omega)
  rw [e1]
  clear e1
  have h1 : 1 ≤ b := by omega
  have h2 : 1 ≤ d := by omega
  by_cases hx : Fit (a * d)
  rotate_left
  · rw [gapE_4 (.inl hx), if_neg (by omega)]
    exact rgap_1 a b c d w ha hb hc hd h1 h2 hx
  by_cases hy : Fit (c * b)
  rotate_left
  · rw [gapE_4 (.inr (.inl hy)), if_neg (by omega)]
    exact rgap_2 a b c d _ w ha hb hc hd h1 h2 hx rfl hy
  by_cases hz : Fit (b * d)
  rotate_left
  · rw [gapE_4 (.inr (.inr (.inr hz))), if_neg (by omega)]
    exact rgap_3 a b c d _ _ w ha hb hc hd h1 h2 hx rfl hy rfl hz
  by_cases hl : a * d < c * b
  · have ed : c * b + -(a * d) = dist (a * d) (c * b) := by unfold dist; rw [if_pos hl]; omega
    by_cases hn : Fit (dist (a * d) (c * b))
    · rw [gapE_0 hx hy hn hz, if_pos rfl]
      exact rgap_lt_ok a b c d _ _ _ _ w ha hb hc hd h1 h2 hx rfl hy rfl hz rfl hl hn ed
    · rw [gapE_4 (.inr (.inr (.inl hn))), if_neg (by omega)]
      exact rgap_lt_no a b c d _ _ _ w ha hb hc hd h1 h2 hx rfl hy rfl hz rfl hl (by rw [ed]; exact hn)
  · have ed : a * d + -(c * b) = dist (a * d) (c * b) := by unfold dist; rw [if_neg hl]; omega
    by_cases hn : Fit (dist (a * d) (c * b))
    · rw [gapE_0 hx hy hn hz, if_pos rfl]
      exact rgap_ge_ok a b c d _ _ _ _ w ha hb hc hd h1 h2 hx rfl hy rfl hz rfl (by omega) hn ed
    · rw [gapE_4 (.inr (.inr (.inl hn))), if_neg (by omega)]
      exact rgap_ge_no a b c d _ _ _ w ha hb hc hd h1 h2 hx rfl hy rfl hz rfl (by omega) (by rw [ed]; exact hn)

end Go.Proofs.Ytaaffpeppdinhaa

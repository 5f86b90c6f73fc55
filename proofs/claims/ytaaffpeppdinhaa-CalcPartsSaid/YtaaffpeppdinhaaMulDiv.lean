/-
  The contract of calc's MulDiv.
-/
import Derived.Test.YtaaffpeppdinhaaLive
import Derived.Test.YtaaffpeppdinhaaDiv
namespace Go.Proofs.Ytaaffpeppdinhaa
open Go.RowKit

theorem narrow_gen (h l V : Int) (w : World) (hh : h = hiOf V) (hl : l = loOf V) :
    Calls Try.prog 26 #[.agg #[.int .i64 h, .int .u64 l]] w (RetB (.tuple #[.int .i64 (tz V), .int .i64 (te V)]) w) := by
  subst hh hl
  exact narrow_any V w

theorem by_any (V c : Int) (w : World) (h0 : 0 ≤ V) (h1 : 1 ≤ c) (h2 : c ≤ 9223372036854775807) (hV : Mid V) :
    Calls Try.prog 34 #[.agg #[.int .i64 (hiOf V), .int .u64 (loOf V)], .int .i64 c] w (RetB (.tuple #[.int .i64 (tz (V / c)), .int .i64 (te (V / c))]) w) := by
  have b1 : 0 ≤ hiOf V := by unfold hiOf; omega
  have b2 : hiOf V < 9223372036854775808 := by unfold Mid at hV; unfold hiOf; omega
  have b3 : 0 ≤ loOf V := by unfold loOf; omega
  have b4 : loOf V < 18446744073709551616 := by unfold loOf; omega
  have b5 : hiOf V * 18446744073709551616 + loOf V = V := by unfold hiOf loOf; omega
  have c1 : IntKind.u64.wrap (hiOf V) = hiOf V := by rw [IntKind.wrap_u64]; omega
  have c2 : IntKind.u64.wrap c = c := by rw [IntKind.wrap_u64]; omega
  clear hV
  by_cases h : c ≤ hiOf V
  · have hn : ¬ Fit (V / c) := by
      have : 18446744073709551616 ≤ V / c := Int.le_ediv_of_mul_le (by omega) (by omega)
      unfold Fit; omega
    have e1 : tz (V / c) = 0 := if_neg hn
    have e2 : te (V / c) = 4 := if_neg hn
    rw [e1, e2]
    have B5 := Lib.hid b5
    clear e1 e2 b5
    go_enter Try.func34, Try.ntmps34
    go_wp2
    go_ret2
    exact RetB.of rfl (below_alloc (Below.refl _ _) _)
  · have hq : V / c < 18446744073709551616 := Int.ediv_lt_of_lt_mul (by omega) (by omega)
    have hq0 : 0 ≤ V / c := Int.ediv_nonneg h0 (by omega)
    have e1 : (0 : Int) = hiOf (V / c) := by unfold hiOf; omega
    have e2 : V / c = loOf (V / c) := by unfold loOf; omega
    have E1 := Lib.hid e1
    have E2 := Lib.hid e2
    have B5 := Lib.hid b5
    clear e1 e2 b5
    go_enter Try.func34, Try.ntmps34
    go_wp2_with fail
    refine (div_any (hiOf V) (loOf V) c _ b1 (by omega) b3 b4 (by omega)).mono ?_
    rw [B5.out]
    rintro e w1 ⟨⟨r, rfl⟩, hb1⟩
    have HB1 := Lib.hid hb1
    clear hb1
    go_wp2_with fail
    refine (narrow_gen _ _ (V / c) _ E1.out E2.out).mono ?_
    rintro e w2 ⟨rfl, hb2⟩
    have HB2 := Lib.hid hb2
    clear hb2
    go_wp2
    go_ret2
    exact RetB.of rfl (below3 (below3 (below_alloc (Below.refl _ _) _) HB1.out (by simp)) HB2.out)

theorem muldiv_no (a b c : Int) (w : World) (h : a < 0 ∨ b < 0 ∨ c < 1) :
    Calls Try.prog 18 #[.int .i64 a, .int .i64 b, .int .i64 c] w (RetB (.tuple #[.int .i64 0, .int .i64 1]) w) := by
  by_cases h1 : a < 0
  · clear h
    go_enter Try.func18, Try.ntmps18
    go_wp2
    go_ret2
    exact RetB.of rfl (Below.refl _ _)
  · by_cases h2 : b < 0
    · clear h
      go_enter Try.func18, Try.ntmps18
      go_wp2
      go_ret2
      exact RetB.of rfl (Below.refl _ _)
    · have h3 : c < 1 := by omega
      clear h
      go_enter Try.func18, Try.ntmps18
      go_wp2
      go_ret2
      exact RetB.of rfl (Below.refl _ _)

theorem muldiv_yes (a b c : Int) (w : World) (ha : Fit a) (hb : Fit b) (hc : Fit c) (h1 : 0 ≤ a) (h2 : 0 ≤ b) (h3 : 1 ≤ c) :
    Calls Try.prog 18 #[.int .i64 a, .int .i64 b, .int .i64 c] w (RetB (.tuple #[.int .i64 (tz (a * b / c)), .int .i64 (te (a * b / c))]) w) := by
  have HA := Lib.hid ha
  have HB := Lib.hid hb
  have HP := Lib.hid (Int.mul_nonneg h1 h2)
  have HC : c ≤ 9223372036854775807 := hc.2
  clear ha hb hc
  go_enter Try.func18, Try.ntmps18
  go_wp2_with fail
  refine (times_any a b _ HA.out HB.out).mono ?_
  rintro e w1 ⟨rfl, hb1⟩
  have HB1 := Lib.hid hb1
  clear hb1
  go_wp2_with fail
  refine (by_any (a * b) c _ HP.out h3 HC (mid_mul HA.out HB.out)).mono ?_
  rintro e w2 ⟨rfl, hb2⟩
  have HB2 := Lib.hid hb2
  clear hb2
  go_wp2
  go_ret2
  exact RetB.of rfl (below3 HB1.out HB2.out)

end Go.Proofs.Ytaaffpeppdinhaa

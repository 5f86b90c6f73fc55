/-
  The walk of the law CalcOrder of layer 2: fractions are in an order.
-/
import Derived.Test.YtaaffpeppdinhaaOrderL
import Derived.Test.YtaaffpeppdinhaaOrderE
import Derived.Test.YtaaffpeppdinhaaOrderG
namespace Go.Proofs.Ytaaffpeppdinhaa
open Go.RowKit

theorem dist_pos {x y : Int} (h : x < y ∨ y < x) : 1 ≤ dist x y ∧ (dist x y == 0) = false := by
  have h1 : 1 ≤ dist x y := by unfold dist; split <;> omega
  refine ⟨h1, ?_⟩
  have : dist x y ≠ 0 := by omega
  simpa using this
theorem dist_zero {x y : Int} (h : x = y) : dist x y = 0 := by unfold dist; split <;> omega

theorem order_any (a b c d m n : Int) (w : World) (fa : Fit a) (fb : Fit b) (fc : Fit c) (fd : Fit d) (fm : Fit m) (fn : Fit n) : Calls Try.prog 7 #[.int .i64 a, .int .i64 b, .int .i64 c, .int .i64 d, .int .i64 m, .int .i64 n] w (TrueAns w) := by
  by_cases h1 : b < 1
  · exact order_b a b c d m n w fa fb fc fd fm fn h1
  have h1 : 1 ≤ b := by omega
  by_cases h2 : d < 1
  · exact order_d a b c d m n w fa fb fc fd fm fn h1 h2
  have h2 : 1 ≤ d := by omega
  have hq : 1 ≤ b * d := Int.mul_pos (a := b) (b := d) (by omega) (by omega)
  have hs := sgn_swap (a * d) (c * b)
  rcases sgn_cases (a * d) (c * b) with ⟨sx, hx⟩ | ⟨sx, hx⟩ | ⟨sx, hx⟩
  · rw [sx] at hs
    obtain ⟨p1, p2⟩ := dist_pos (x := a * d) (y := c * b) (.inl hx)
    by_cases h3 : n < 1
    · rcases gapE_cases a b c d with ge | ge
      · exact order_l_ok_n a b c d m n (dist (a * d) (c * b)) (b * d) w fa fb fc fd fm fn h1 h2 sx hs h3 ge rfl p1 p2 rfl hq
      · exact order_l_no_n a b c d m n w fa fb fc fd fm fn h1 h2 sx hs h3 ge
    have h3 : 1 ≤ n := by omega
    rcases sgn_cases (c * n) (m * d) with ⟨sz, hz⟩ | ⟨sz, hz⟩ | ⟨sz, hz⟩ <;> rcases sgn_cases (a * n) (m * b) with ⟨sw, hw⟩ | ⟨sw, hw⟩ | ⟨sw, hw⟩
    · rcases gapE_cases a b c d with ge | ge
      · exact order_l_ok_ll a b c d m n (dist (a * d) (c * b)) (b * d) w fa fb fc fd fm fn h1 h2 sx hs h3 sz sw ge rfl p1 p2 rfl hq
      · exact order_l_no_ll a b c d m n w fa fb fc fd fm fn h1 h2 sx hs h3 sz sw ge
    · have := frac_lt (a := a) (b := b) (c := c) (d := d) (m := m) (n := n) h1 h2 h3 (by omega) (by omega) (.inl hx)
      omega
    · have := frac_lt (a := a) (b := b) (c := c) (d := d) (m := m) (n := n) h1 h2 h3 (by omega) (by omega) (.inl hx)
      omega
    · rcases gapE_cases a b c d with ge | ge
      · exact order_l_ok_el a b c d m n (dist (a * d) (c * b)) (b * d) w fa fb fc fd fm fn h1 h2 sx hs h3 sz sw ge rfl p1 p2 rfl hq
      · exact order_l_no_el a b c d m n w fa fb fc fd fm fn h1 h2 sx hs h3 sz sw ge
    · have := frac_lt (a := a) (b := b) (c := c) (d := d) (m := m) (n := n) h1 h2 h3 (by omega) (by omega) (.inl hx)
      omega
    · have := frac_lt (a := a) (b := b) (c := c) (d := d) (m := m) (n := n) h1 h2 h3 (by omega) (by omega) (.inl hx)
      omega
    · rcases gapE_cases a b c d with ge | ge
      · exact order_l_ok_gl a b c d m n (dist (a * d) (c * b)) (b * d) w fa fb fc fd fm fn h1 h2 sx hs h3 sz sw ge rfl p1 p2 rfl hq
      · exact order_l_no_gl a b c d m n w fa fb fc fd fm fn h1 h2 sx hs h3 sz sw ge
    · rcases gapE_cases a b c d with ge | ge
      · exact order_l_ok_ge a b c d m n (dist (a * d) (c * b)) (b * d) w fa fb fc fd fm fn h1 h2 sx hs h3 sz sw ge rfl p1 p2 rfl hq
      · exact order_l_no_ge a b c d m n w fa fb fc fd fm fn h1 h2 sx hs h3 sz sw ge
    · rcases gapE_cases a b c d with ge | ge
      · exact order_l_ok_gg a b c d m n (dist (a * d) (c * b)) (b * d) w fa fb fc fd fm fn h1 h2 sx hs h3 sz sw ge rfl p1 p2 rfl hq
      · exact order_l_no_gg a b c d m n w fa fb fc fd fm fn h1 h2 sx hs h3 sz sw ge
  · rw [sx] at hs
    by_cases h3 : n < 1
    · rcases gapE_cases a b c d with ge | ge
      · exact order_e_ok_n a b c d m n (b * d) w fa fb fc fd fm fn h1 h2 sx hs h3 ge (dist_zero hx) rfl hq
      · exact order_e_no_n a b c d m n w fa fb fc fd fm fn h1 h2 sx hs h3 ge
    have h3 : 1 ≤ n := by omega
    rcases sgn_cases (c * n) (m * d) with ⟨sz, hz⟩ | ⟨sz, hz⟩ | ⟨sz, hz⟩ <;> rcases sgn_cases (a * n) (m * b) with ⟨sw, hw⟩ | ⟨sw, hw⟩ | ⟨sw, hw⟩
    · rcases gapE_cases a b c d with ge | ge
      · exact order_e_ok_ll a b c d m n (b * d) w fa fb fc fd fm fn h1 h2 sx hs h3 sz sw ge (dist_zero hx) rfl hq
      · exact order_e_no_ll a b c d m n w fa fb fc fd fm fn h1 h2 sx hs h3 sz sw ge
    · have := frac_lt (a := a) (b := b) (c := c) (d := d) (m := m) (n := n) h1 h2 h3 (by omega) (by omega) (.inr hz)
      omega
    · have := frac_lt (a := a) (b := b) (c := c) (d := d) (m := m) (n := n) h1 h2 h3 (by omega) (by omega) (.inr hz)
      omega
    · have := frac_le (a := a) (b := b) (c := c) (d := d) (m := m) (n := n) h1 h2 h3 (by omega) (by omega)
      have := frac_le (a := m) (b := n) (c := c) (d := d) (m := a) (n := b) h3 h2 h1 (by omega) (by omega)
      omega
    · rcases gapE_cases a b c d with ge | ge
      · exact order_e_ok_ee a b c d m n (b * d) w fa fb fc fd fm fn h1 h2 sx hs h3 sz sw ge (dist_zero hx) rfl hq
      · exact order_e_no_ee a b c d m n w fa fb fc fd fm fn h1 h2 sx hs h3 sz sw ge
    · have := frac_le (a := a) (b := b) (c := c) (d := d) (m := m) (n := n) h1 h2 h3 (by omega) (by omega)
      have := frac_le (a := m) (b := n) (c := c) (d := d) (m := a) (n := b) h3 h2 h1 (by omega) (by omega)
      omega
    · have := frac_lt (a := m) (b := n) (c := c) (d := d) (m := a) (n := b) h3 h2 h1 (by omega) (by omega) (.inl hz)
      omega
    · have := frac_lt (a := m) (b := n) (c := c) (d := d) (m := a) (n := b) h3 h2 h1 (by omega) (by omega) (.inl hz)
      omega
    · rcases gapE_cases a b c d with ge | ge
      · exact order_e_ok_gg a b c d m n (b * d) w fa fb fc fd fm fn h1 h2 sx hs h3 sz sw ge (dist_zero hx) rfl hq
      · exact order_e_no_gg a b c d m n w fa fb fc fd fm fn h1 h2 sx hs h3 sz sw ge
  · rw [sx] at hs
    obtain ⟨p1, p2⟩ := dist_pos (x := a * d) (y := c * b) (.inr hx)
    by_cases h3 : n < 1
    · rcases gapE_cases a b c d with ge | ge
      · exact order_g_ok_n a b c d m n (dist (a * d) (c * b)) (b * d) w fa fb fc fd fm fn h1 h2 sx hs h3 ge rfl p1 p2 rfl hq
      · exact order_g_no_n a b c d m n w fa fb fc fd fm fn h1 h2 sx hs h3 ge
    have h3 : 1 ≤ n := by omega
    rcases sgn_cases (c * n) (m * d) with ⟨sz, hz⟩ | ⟨sz, hz⟩ | ⟨sz, hz⟩ <;> rcases sgn_cases (a * n) (m * b) with ⟨sw, hw⟩ | ⟨sw, hw⟩ | ⟨sw, hw⟩
    · rcases gapE_cases a b c d with ge | ge
      · exact order_g_ok_ll a b c d m n (dist (a * d) (c * b)) (b * d) w fa fb fc fd fm fn h1 h2 sx hs h3 sz sw ge rfl p1 p2 rfl hq
      · exact order_g_no_ll a b c d m n w fa fb fc fd fm fn h1 h2 sx hs h3 sz sw ge
    · rcases gapE_cases a b c d with ge | ge
      · exact order_g_ok_le a b c d m n (dist (a * d) (c * b)) (b * d) w fa fb fc fd fm fn h1 h2 sx hs h3 sz sw ge rfl p1 p2 rfl hq
      · exact order_g_no_le a b c d m n w fa fb fc fd fm fn h1 h2 sx hs h3 sz sw ge
    · rcases gapE_cases a b c d with ge | ge
      · exact order_g_ok_lg a b c d m n (dist (a * d) (c * b)) (b * d) w fa fb fc fd fm fn h1 h2 sx hs h3 sz sw ge rfl p1 p2 rfl hq
      · exact order_g_no_lg a b c d m n w fa fb fc fd fm fn h1 h2 sx hs h3 sz sw ge
    · have := frac_lt (a := m) (b := n) (c := c) (d := d) (m := a) (n := b) h3 h2 h1 (by omega) (by omega) (.inr hx)
      omega
    · have := frac_lt (a := m) (b := n) (c := c) (d := d) (m := a) (n := b) h3 h2 h1 (by omega) (by omega) (.inr hx)
      omega
    · rcases gapE_cases a b c d with ge | ge
      · exact order_g_ok_eg a b c d m n (dist (a * d) (c * b)) (b * d) w fa fb fc fd fm fn h1 h2 sx hs h3 sz sw ge rfl p1 p2 rfl hq
      · exact order_g_no_eg a b c d m n w fa fb fc fd fm fn h1 h2 sx hs h3 sz sw ge
    · have := frac_lt (a := m) (b := n) (c := c) (d := d) (m := a) (n := b) h3 h2 h1 (by omega) (by omega) (.inl hz)
      omega
    · have := frac_lt (a := m) (b := n) (c := c) (d := d) (m := a) (n := b) h3 h2 h1 (by omega) (by omega) (.inl hz)
      omega
    · rcases gapE_cases a b c d with ge | ge
      · exact order_g_ok_gg a b c d m n (dist (a * d) (c * b)) (b * d) w fa fb fc fd fm fn h1 h2 sx hs h3 sz sw ge rfl p1 p2 rfl hq
      · exact order_g_no_gg a b c d m n w fa fb fc fd fm fn h1 h2 sx hs h3 sz sw ge

end Go.Proofs.Ytaaffpeppdinhaa

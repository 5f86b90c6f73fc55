/-
  The contract of the library's division of two words by one, its quotient.
-/
import Derived.Test.YtaaffpeppdinhaaShelf
import Derived.Test.YtaaffpeppdinhaaDivMath
import Derived.Deep.DeepCutAuto
import Derived.Deep.CutBlock
import Derived.Deep.QuietTactic
import Derived.BigQuiet
import Derived.Deep.QuietTactic
import Derived.BigQuiet
namespace Go.Proofs.Ytaaffpeppdinhaa
open Go.RowKit

/-- A quotient, and whatever is left. -/
def QuoAns (q : Int) (w : World) (e : Ending) (w' : World) : Prop := (∃ r : Int, e = .returned (.tuple #[.int .u64 q, .int .u64 r])) ∧ w = w'

/-- What the moved numbers are, in the walk's own words. -/
structure Moved (hi lo y Y Y1 Y0 U L L1 L0 : Int) (s : Nat) : Prop where
  eY : IntKind.u64.wrap (y * 2 ^ s) = Y
  eY1 : Y / 4294967296 = Y1
  eY0 : bits .and .u64 Y 4294967295 = Y0
  eU : bits .or .u64 (IntKind.u64.wrap (hi * 2 ^ s)) (lo / 2 ^ (64 - s)) = U
  eL : IntKind.u64.wrap (lo * 2 ^ s) = L
  eL1 : L / 4294967296 = L1
  eL0 : bits .and .u64 L 4294967295 = L0
  eYY : Y = Y1 * 4294967296 + Y0
  eLL : L = L1 * 4294967296 + L0
  l0 : 0 ≤ L0 ∧ L0 < 4294967296
  hv : Halves Y1 Y0 U L1
  eV : (hi * 18446744073709551616 + lo) / y = (U * 18446744073709551616 + L) / Y

/-- The like, where the order was drawn. -/
def QuoB (q : Int) (w : World) (e : Ending) (w' : World) : Prop := (∃ r : Int, e = .returned (.tuple #[.int .u64 q, .int .u64 r])) ∧ Below w.heap.size w w'

def GuessedN (y1 y0 un u1 : Int) (k : Nat) (q r : Value) : Prop := ∃ q' r' : Int, q = .int .u64 q' ∧ r = .int .u64 r' ∧ Guess y1 y0 un u1 q' r' ∧ q'.toNat ≤ k

/-- What the walk reckons for a digit's first guess. -/
theorem guess_words {y1 y0 un u1 : Int} (h : Halves y1 y0 un u1) : ∃ q p r : Int, IntKind.u64.wrap (un.tdiv y1) = q ∧ IntKind.u64.wrap (q * y1) = p ∧ IntKind.u64.wrap (un - p) = r ∧ Guess y1 y0 un u1 q r := by
  have g := guess_start h
  obtain ⟨a1, a2, b1, b2, c1, c2, d1, d2⟩ := h
  have e := Int.mul_ediv_add_emod un y1
  have e2 := Int.emod_nonneg un (b := y1) (by omega)
  have hn : 0 ≤ un / y1 * y1 := Int.mul_nonneg g.1 (by omega)
  have e3 : y1 * (un / y1) = un / y1 * y1 := Int.mul_comm _ _
  have k1 : IntKind.u64.wrap (un.tdiv y1) = un / y1 := by
    rw [Int.tdiv_eq_ediv_of_nonneg c1, IntKind.wrap_u64]
    have := g.1; have := g.2.1; omega
  have k2 : IntKind.u64.wrap (un / y1 * y1) = un / y1 * y1 := by rw [IntKind.wrap_u64]; omega
  have k3 : IntKind.u64.wrap (un - un / y1 * y1) = un - un / y1 * y1 := by rw [IntKind.wrap_u64]; omega
  exact ⟨_, _, _, k1, k2, k3, g⟩

/-- What the walk reckons for what a digit leaves. -/
theorem rest_words {y1 y0 un u1 Y : Int} (h : Halves y1 y0 un u1) (hY : Y = y1 * 4294967296 + y0) :
    ∃ a b c : Int, IntKind.u64.wrap (un * 4294967296) = a ∧ IntKind.u64.wrap (a + u1) = b ∧ IntKind.u64.wrap ((un * 4294967296 + u1) / Y * Y) = c ∧ IntKind.u64.wrap (b - c) = (un * 4294967296 + u1) % Y := by
  have hd := digit_bd h
  rw [← hY] at hd
  have e := Int.mul_ediv_add_emod (un * 4294967296 + u1) Y
  have e3 : Y * ((un * 4294967296 + u1) / Y) = (un * 4294967296 + u1) / Y * Y := Int.mul_comm _ _
  obtain ⟨a1, a2, b1, b2, c1, c2, d1, d2⟩ := h
  generalize (un * 4294967296 + u1) / Y * Y = P at *
  generalize (un * 4294967296 + u1) % Y = R at *
  refine ⟨_, _, _, rfl, rfl, rfl, ?_⟩
  simp only [IntKind.wrap_u64]
  omega

set_option maxHeartbeats 4000000 in
set_option maxRecDepth 100000 in
theorem div_core (hi lo y Y Y1 Y0 U L L1 L0 : Int) (s : Nat) (w : World) (h2 : 0 < hi) (h3 : hi < y) (h4 : y < 9223372036854775808) (hs : 64 - (Lib.bitLen y.toNat : Int) = s) (hs2 : s < 64) (m : Moved hi lo y Y Y1 Y0 U L L1 L0 s) :
    Calls Try.prog 45 #[.int .u64 hi, .int .u64 lo, .int .u64 y] w (QuoAns ((hi * 18446744073709551616 + lo) / y) w) := by
  obtain ⟨eY, eY1, eY0, eU, eL, eL1, eL0, eYY, eLL, l0, hv, eV⟩ := m
  rw [eV]
  clear eV
  -- the two digits, what is left between
  obtain ⟨q1, p1, r1, f1, f2, f3, g1⟩ := guess_words hv
  obtain ⟨x1, x2, x3, k1, k2, k3, k4⟩ := rest_words hv eYY
  have hd := digit_bd hv
  rw [← eYY] at hd
  have hdig := two_digits (y := Y) (un := U) (u1 := L1) (u0 := L0) (by rw [eYY]; have := hv.1; have := hv.2.2.1; omega)
  rw [show U * 18446744073709551616 + L1 * 4294967296 + L0 = U * 18446744073709551616 + L by omega] at hdig
  generalize hQ : (U * 4294967296 + L1) / Y = Q at *
  generalize hR : (U * 4294967296 + L1) % Y = R at *
  have hv2 : Halves Y1 Y0 R L0 := ⟨hv.1, hv.2.1, hv.2.2.1, hv.2.2.2.1, hd.2.2.1, by omega, l0.1, l0.2⟩
  obtain ⟨q2, p2, r2, f4, f5, f6, g2⟩ := guess_words hv2
  have hd2 := digit_bd hv2
  rw [← eYY] at hd2
  generalize hQ0 : (R * 4294967296 + L0) / Y = Q0 at *
  rw [← hdig]
  have z1 : IntKind.u64.wrap (Q * 4294967296) = Q * 4294967296 := by rw [IntKind.wrap_u64]; omega
  have z2 : IntKind.u64.wrap (Q * 4294967296 + Q0) = Q * 4294967296 + Q0 := by rw [IntKind.wrap_u64]; omega
  have HS := Lib.hid hs
  have HV := Lib.hid hv
  have HV2 := Lib.hid hv2
  have EQ : Hid ((U * 4294967296 + L1) / (Y1 * 4294967296 + Y0) = Q) := by rw [← eYY]; exact hQ
  have EQ2 : Hid ((R * 4294967296 + L0) / (Y1 * 4294967296 + Y0) = Q0) := by rw [← eYY]; exact hQ0
  have G1 := Lib.hid g1
  have G2 := Lib.hid g2
  obtain ⟨a1, a2, b1, b2, c1, c2, d1, d2⟩ := hv
  obtain ⟨m1, m2⟩ := l0
  clear hs hv2 eYY eLL hdig hQ hR hQ0 hd hd2 g1 g2 c2
  have e1 : (y == 0) = false := by simp; omega
  have e2 : (hi == 0) = false := by simp; omega
  have e3 : (Y1 == 0) = false := by simp; omega
  have e4 : ¬ Y1 = 0 := by omega
  go_enter Try.func45, Try.ntmps45
  go_wp2_with fail
  refine (lead64 y _ (by omega) (by omega)).mono ?_
  rw [HS.out]
  rintro e w' ⟨rfl, rfl⟩
  go_upto_block 0 with fail
  go_cut [15, 16] from 67 to 85 (fun q _ wx => q = .int .u64 Q ∧ wx = w')
  case first =>
    go_wp2_with fail
    go_loopg [15, 16] q1.toNat (fun k q r wr => GuessedN Y1 Y0 U L1 k q r ∧ wr = w')
    case atStart => exact ⟨⟨q1, r1, rfl, rfl, G1.out, Nat.le_refl _⟩, rfl⟩
    case round =>
      obtain ⟨⟨q, r, rfl, rfl, hg, hk⟩, rfl⟩ := hrel
      have HG := Lib.hid hg
      have HN := Lib.hid (fun h => guess_next HV.out hg (show Over Y0 L1 q r from h))
      have HO := Lib.hid (fun h => (over_iff HV.out hg).1 (show ¬ Over Y0 L1 q r from h))
      have HS := Lib.hid (guess_small HV.out hg)
      obtain ⟨q1, q2, r1, r2, -, -⟩ := hg
      have x2 : IntKind.u64.wrap (4294967296 * r) = 4294967296 * r := by rw [IntKind.wrap_u64]; omega
      by_cases c : 4294967296 ≤ q
      · have ho : Over Y0 L1 q r := .inl c
        obtain ⟨n1, n2, n3⟩ := HN.out ho
        have N2 := Lib.hid n2
        have N3 := Lib.hid n3
        clear n2 n3 ho
        have y1 : IntKind.u64.wrap (q - 1) = q - 1 := by rw [IntKind.wrap_u64]; omega
        have y2 : IntKind.u64.wrap (r + Y1) = r + Y1 := by rw [IntKind.wrap_u64]; omega
        by_cases d : 4294967296 ≤ r + Y1
        · go_wp2
          go_meet
          exact ⟨by rw [N3.out d, EQ.out], rfl⟩
        · go_wp2
          go_roundg (q - 1).toNat
          case measure => omega
          case rel => exact ⟨⟨q - 1, r + Y1, rfl, rfl, N2.out (by omega), Nat.le_refl _⟩, rfl⟩
      · have c' : q < 4294967296 := by omega
        obtain ⟨s1, s2⟩ := HS.out c'
        have x1 : IntKind.u64.wrap (q * Y0) = q * Y0 := by rw [IntKind.wrap_u64]; omega
        have x3 : IntKind.u64.wrap (4294967296 * r + L1) = 4294967296 * r + L1 := by rw [IntKind.wrap_u64]; omega
        by_cases e : 4294967296 * r + L1 < q * Y0
        · have ho : Over Y0 L1 q r := .inr e
          obtain ⟨n1, n2, n3⟩ := HN.out ho
          have N2 := Lib.hid n2
          have N3 := Lib.hid n3
          clear n2 n3 ho
          have y1 : IntKind.u64.wrap (q - 1) = q - 1 := by rw [IntKind.wrap_u64]; omega
          have y2 : IntKind.u64.wrap (r + Y1) = r + Y1 := by rw [IntKind.wrap_u64]; omega
          by_cases d : 4294967296 ≤ r + Y1
          · go_wp2
            go_meet
            exact ⟨by rw [N3.out d, EQ.out], rfl⟩
          · go_wp2
            go_roundg (q - 1).toNat
            case measure => omega
            case rel => exact ⟨⟨q - 1, r + Y1, rfl, rfl, N2.out (by omega), Nat.le_refl _⟩, rfl⟩
        · have hq := HO.out (fun h => h.elim (fun h => by omega) (fun h => e h))
          have HQ := Lib.hid hq
          clear hq
          go_wp2
          go_meet
          exact ⟨by rw [HQ.out, EQ.out], rfl⟩
  case rest =>
    obtain ⟨rfl, rfl⟩ := hcut
    go_upto_block 2 with fail
    go_cut [18, 16] from 102 to 120 (fun q _ wx => q = .int .u64 Q0 ∧ wx = wc)
    case first =>
      go_wp2_with fail
      go_loopg [18, 16] q2.toNat (fun k q r wr => GuessedN Y1 Y0 R L0 k q r ∧ wr = wc)
      case atStart => exact ⟨⟨q2, r2, rfl, rfl, G2.out, Nat.le_refl _⟩, rfl⟩
      case round =>
        obtain ⟨⟨q, r, rfl, rfl, hg, hk⟩, rfl⟩ := hrel
        have HG := Lib.hid hg
        have HN := Lib.hid (fun h => guess_next HV2.out hg (show Over Y0 L0 q r from h))
        have HO := Lib.hid (fun h => (over_iff HV2.out hg).1 (show ¬ Over Y0 L0 q r from h))
        have HS := Lib.hid (guess_small HV2.out hg)
        obtain ⟨q1, q2, r1, r2, -, -⟩ := hg
        have x2 : IntKind.u64.wrap (4294967296 * r) = 4294967296 * r := by rw [IntKind.wrap_u64]; omega
        by_cases c : 4294967296 ≤ q
        · have ho : Over Y0 L0 q r := .inl c
          obtain ⟨n1, n2, n3⟩ := HN.out ho
          have N2 := Lib.hid n2
          have N3 := Lib.hid n3
          clear n2 n3 ho
          have y1 : IntKind.u64.wrap (q - 1) = q - 1 := by rw [IntKind.wrap_u64]; omega
          have y2 : IntKind.u64.wrap (r + Y1) = r + Y1 := by rw [IntKind.wrap_u64]; omega
          by_cases d : 4294967296 ≤ r + Y1
          · go_wp2
            go_meet
            exact ⟨by rw [N3.out d, EQ2.out], rfl⟩
          · go_wp2
            go_roundg (q - 1).toNat
            case measure => omega
            case rel => exact ⟨⟨q - 1, r + Y1, rfl, rfl, N2.out (by omega), Nat.le_refl _⟩, rfl⟩
        · have c' : q < 4294967296 := by omega
          obtain ⟨s1, s2⟩ := HS.out c'
          have x1 : IntKind.u64.wrap (q * Y0) = q * Y0 := by rw [IntKind.wrap_u64]; omega
          have x3 : IntKind.u64.wrap (4294967296 * r + L0) = 4294967296 * r + L0 := by rw [IntKind.wrap_u64]; omega
          by_cases e : 4294967296 * r + L0 < q * Y0
          · have ho : Over Y0 L0 q r := .inr e
            obtain ⟨n1, n2, n3⟩ := HN.out ho
            have N2 := Lib.hid n2
            have N3 := Lib.hid n3
            clear n2 n3 ho
            have y1 : IntKind.u64.wrap (q - 1) = q - 1 := by rw [IntKind.wrap_u64]; omega
            have y2 : IntKind.u64.wrap (r + Y1) = r + Y1 := by rw [IntKind.wrap_u64]; omega
            by_cases d : 4294967296 ≤ r + Y1
            · go_wp2
              go_meet
              exact ⟨by rw [N3.out d, EQ2.out], rfl⟩
            · go_wp2
              go_roundg (q - 1).toNat
              case measure => omega
              case rel => exact ⟨⟨q - 1, r + Y1, rfl, rfl, N2.out (by omega), Nat.le_refl _⟩, rfl⟩
          · have hq := HO.out (fun h => h.elim (fun h => by omega) (fun h => e h))
            have HQ := Lib.hid hq
            clear hq
            go_wp2
            go_meet
            exact ⟨by rw [HQ.out, EQ2.out], rfl⟩
    case rest =>
      obtain ⟨rfl, rfl⟩ := hcut

      go_wp2
      go_ret2
      exact ⟨⟨_, rfl⟩, rfl⟩

theorem mask_low (a : Int) (h0 : 0 ≤ a) (h1 : a < 18446744073709551616) : bits .and .u64 a 4294967295 = a % 4294967296 := by
  obtain ⟨a, rfl⟩ := Int.eq_ofNat_of_zero_le h0
  have h := bits_and_u64_nat a 4294967295 (by omega) (by omega)
  have e : a &&& 4294967295 = a % 4294967296 := Nat.and_two_pow_sub_one_eq_mod a 32
  rw [e] at h
  exact h

theorem moved (hi lo y : Nat) (h1 : 0 < y) (h2 : hi < y) (h3 : lo < 18446744073709551616) (h4 : y < 18446744073709551616) :
    ∃ (Y Y1 Y0 U L L1 L0 : Int) (s : Nat), s < 64 ∧ (64 - (Lib.bitLen y : Int) = s) ∧ Moved hi lo y Y Y1 Y0 U L L1 L0 s := by
  obtain ⟨s, hs, hs2, y1, y2⟩ := norm_y y h1 h4
  obtain ⟨U, L, u1, l1, e, eU, eL⟩ := norm_u hi lo y s h2 h3 hs2 y2
  have hp := Nat.two_pow_pos s
  have hh : hi * 2 ^ s ≤ y * 2 ^ s := Nat.mul_le_mul (by omega) (Nat.le_refl _)
  have c1 : ((y : Int) * 2 ^ s) = ((y * 2 ^ s : Nat) : Int) := by simp
  have c2 : ((hi : Int) * 2 ^ s) = ((hi * 2 ^ s : Nat) : Int) := by simp
  have c3 : ((lo : Int) * 2 ^ s) = ((lo * 2 ^ s : Nat) : Int) := by simp
  have c4 : ((lo : Int) / 2 ^ (64 - s)) = ((lo / 2 ^ (64 - s) : Nat) : Int) := by simp
  refine ⟨((y * 2 ^ s : Nat) : Int), ((y * 2 ^ s : Nat) : Int) / 4294967296, ((y * 2 ^ s : Nat) : Int) % 4294967296, U, L, (L : Int) / 4294967296, (L : Int) % 4294967296, s, hs2, hs, ?_⟩
  refine ⟨?_, rfl, mask_low _ (by omega) (by omega), ?_, ?_, rfl, mask_low _ (by omega) (by omega), by omega, by omega, by omega, ⟨by omega, by omega, by omega, by omega, by omega, by omega, by omega, by omega⟩, ?_⟩
  · rw [c1, IntKind.wrap_u64]; omega
  · rw [c2, c4, IntKind.wrap_u64, show ((hi * 2 ^ s : Nat) : Int) % 18446744073709551616 = ((hi * 2 ^ s : Nat) : Int) by omega]
    exact eU
  · rw [c3, IntKind.wrap_u64]; omega
  · have e2 : ((U : Int) * 18446744073709551616 + L) = ((hi : Int) * 18446744073709551616 + lo) * ((2 ^ s : Nat) : Int) := by
      have := congrArg (Nat.cast : Nat → Int) e
      simpa using this
    rw [e2, show ((y * 2 ^ s : Nat) : Int) = (y : Int) * ((2 ^ s : Nat) : Int) by simp]
    exact (Int.mul_ediv_mul_of_pos_left _ _ (by omega)).symm

set_option maxRecDepth 100000 in
theorem div_zero (lo y : Int) (w : World) (h0 : 0 ≤ lo) (h1 : lo < 18446744073709551616) (h3 : 0 < y) (h4 : y < 9223372036854775808) :
    Calls Try.prog 45 #[.int .u64 0, .int .u64 lo, .int .u64 y] w (QuoB (lo / y) w) := by
  have e1 : (y == 0) = false := by simp; omega
  have e2 : ¬ y = 0 := by omega
  have e3 : decide (y ≤ 0) = false := by simp; omega
  have e4 : IntKind.u64.wrap (lo.tdiv y) = lo / y := by
    rw [Int.tdiv_eq_ediv_of_nonneg h0, IntKind.wrap_u64]
    have := Int.ediv_nonneg h0 (Int.le_of_lt h3)
    have := Int.ediv_le_self y h0
    omega
  have e5 : IntKind.u64.wrap (lo / y) = lo / y := by rw [← Int.tdiv_eq_ediv_of_nonneg h0]; exact e4.trans (Int.tdiv_eq_ediv_of_nonneg h0).symm
  go_enter Try.func45, Try.ntmps45
  go_wp2_with fail
  go_quiet (fail)
  go_wp2
  go_ret2
  exact ⟨⟨_, rfl⟩, rfl, rfl, rfl, Nat.le_refl _, fun _ _ => rfl⟩

theorem div_any (hi lo y : Int) (w : World) (h0 : 0 ≤ hi) (h1 : hi < y) (h2 : 0 ≤ lo) (h3 : lo < 18446744073709551616) (h4 : y < 9223372036854775808) :
    Calls Try.prog 45 #[.int .u64 hi, .int .u64 lo, .int .u64 y] w (QuoB ((hi * 18446744073709551616 + lo) / y) w) := by
  by_cases h : hi = 0
  · subst h
    have := div_zero lo y w h2 h3 h1 h4
    rwa [show (0 * 18446744073709551616 + lo : Int) = lo by omega]
  · obtain ⟨hi, rfl⟩ := Int.eq_ofNat_of_zero_le h0
    obtain ⟨lo, rfl⟩ := Int.eq_ofNat_of_zero_le h2
    obtain ⟨y, rfl⟩ := Int.eq_ofNat_of_zero_le (show 0 ≤ y by omega)
    obtain ⟨Y, Y1, Y0, U, L, L1, L0, s, hs, hn, m⟩ := moved hi lo y (by omega) (by omega) (by omega) (by omega)
    exact (div_core hi lo y Y Y1 Y0 U L L1 L0 s w (by omega) h1 h4 (by simpa using hn) hs m).mono fun _ _ ⟨he, hw⟩ => ⟨he, hw ▸ Below.refl _ _⟩

end Go.Proofs.Ytaaffpeppdinhaa

/-
  Contracts of calc's numbers of 128 bits held against one another; and of the first error of four.
-/
import Derived.Test.YtaaffpeppdinhaaWide
namespace Go.Proofs.Ytaaffpeppdinhaa
open Go.RowKit

/-- -1, 0 or 1. -/
def sgn (a b : Int) : Int := if a = b then 0 else if a < b then -1 else 1

theorem less_gen (h1 l1 h2 l2 a b : Int) (w : World) (e1 : h1 = hiOf a) (e2 : l1 = loOf a) (e3 : h2 = hiOf b) (e4 : l2 = loOf b) :
    Calls Try.prog 46 #[.agg #[.int .i64 h1, .int .u64 l1], .agg #[.int .i64 h2, .int .u64 l2]] w (RetB (.bool (decide (a < b))) w) := by
  subst e1 e2 e3 e4
  exact less_any a b w

theorem against_any (a b : Int) (w : World) :
    Calls Try.prog 36 #[.agg #[.int .i64 (hiOf a), .int .u64 (loOf a)], .agg #[.int .i64 (hiOf b), .int .u64 (loOf b)]] w (RetB (.int .i64 (sgn a b)) w) := by
  by_cases h : a = b
  · subst h
    have hs : sgn a a = 0 := by unfold sgn; simp
    rw [hs]
    clear hs
    go_enter Try.func36, Try.ntmps36
    go_wp2
    go_ret
    exact RetB.of rfl (by repeat (first | exact Below.refl _ _ | apply below_drew | apply below_alloc))
  · by_cases hh : hiOf a = hiOf b <;> by_cases hl : a < b
    · have hs : sgn a b = -1 := by unfold sgn; rw [if_neg h, if_pos hl]
      have hd : decide (a < b) = true := by simpa using hl
      rw [hs]
      have HD := Lib.hid hd
      have h2 : (loOf a = loOf b) = False := by unfold hiOf at hh; unfold loOf; simp; omega
      have HH := Lib.hid hh.symm
      rw [hh]
      clear hd hs h hl hh
      go_enter Try.func36, Try.ntmps36
      go_wp2_with (go_at_call 46; refine (less_gen _ _ _ _ a b _ HH.out rfl rfl rfl).mono ?_; rw [HD.out]; rintro e w1 ⟨rfl, hb⟩; have HB := Lib.hid hb; clear hb)
      go_ret
      exact RetB.of rfl (below3 (below_alloc (below_alloc (Below.refl _ _) _) _) HB.out (by simp))
    · have hs : sgn a b = 1 := by unfold sgn; rw [if_neg h, if_neg hl]
      have hd : decide (a < b) = false := by simpa using hl
      rw [hs]
      have HD := Lib.hid hd
      have h2 : (loOf a = loOf b) = False := by unfold hiOf at hh; unfold loOf; simp; omega
      have HH := Lib.hid hh.symm
      rw [hh]
      clear hd hs h hl hh
      go_enter Try.func36, Try.ntmps36
      go_wp2_with (go_at_call 46; refine (less_gen _ _ _ _ a b _ HH.out rfl rfl rfl).mono ?_; rw [HD.out]; rintro e w1 ⟨rfl, hb⟩; have HB := Lib.hid hb; clear hb)
      go_ret
      exact RetB.of rfl (below3 (below_alloc (below_alloc (Below.refl _ _) _) _) HB.out (by simp))
    · have hs : sgn a b = -1 := by unfold sgn; rw [if_neg h, if_pos hl]
      have hd : decide (a < b) = true := by simpa using hl
      rw [hs]
      have HD := Lib.hid hd
      have h2 : (hiOf a = hiOf b) = False := by simpa using hh
      clear hd hs h hl hh
      go_enter Try.func36, Try.ntmps36
      go_wp2_with (go_at_call 46; refine (less_gen _ _ _ _ a b _ rfl rfl rfl rfl).mono ?_; rw [HD.out]; rintro e w1 ⟨rfl, hb⟩; have HB := Lib.hid hb; clear hb)
      go_ret
      exact RetB.of rfl (below3 (below_alloc (below_alloc (Below.refl _ _) _) _) HB.out (by simp))
    · have hs : sgn a b = 1 := by unfold sgn; rw [if_neg h, if_neg hl]
      have hd : decide (a < b) = false := by simpa using hl
      rw [hs]
      have HD := Lib.hid hd
      have h2 : (hiOf a = hiOf b) = False := by simpa using hh
      clear hd hs h hl hh
      go_enter Try.func36, Try.ntmps36
      go_wp2_with (go_at_call 46; refine (less_gen _ _ _ _ a b _ rfl rfl rfl rfl).mono ?_; rw [HD.out]; rintro e w1 ⟨rfl, hb⟩; have HB := Lib.hid hb; clear hb)
      go_ret
      exact RetB.of rfl (below3 (below_alloc (below_alloc (Below.refl _ _) _) _) HB.out (by simp))

def Z4 (a b c d : Int) (k : Nat) : Prop := (0 < k → a = 0) ∧ (1 < k → b = 0) ∧ (2 < k → c = 0) ∧ (3 < k → d = 0)

/-- The first one that is not 0. -/
def first4 (a b c d : Int) : Int := if a ≠ 0 then a else if b ≠ 0 then b else if c ≠ 0 then c else d

theorem first_any (a b c d : Int) (w : World) :
    Calls Try.prog 38 #[.agg #[.int .i64 a, .int .i64 b, .int .i64 c, .int .i64 d]] w (RetB (.int .i64 (first4 a b c d)) w) := by
  go_enter Try.func38, Try.ntmps38
  go_wp2
  go_loop [6] (fun i => ∃ k : Nat, k ≤ 4 ∧ i = .int .i64 k ∧ Z4 a b c d k) (fun i => 4 - (intOf i).toNat)
  case atStart => exact ⟨0, by omega, rfl, by unfold Z4; omega⟩
  case round =>
    obtain ⟨k, hk, rfl, hz⟩ := hrel
    have HZ := Lib.hid hz
    clear hz
    obtain rfl | rfl | rfl | rfl | rfl : k = 0 ∨ k = 1 ∨ k = 2 ∨ k = 3 ∨ k = 4 := by omega
    · have ix : ∀ w : World, (Instr.index 53 (.agg #[.int .i64 a, .int .i64 b, .int .i64 c, .int .i64 d]) (.int .i64 0)).run Try.prog w = .ok (.int .i64 a) w := fun _ => by kernel_rfl
      by_cases h : a = 0
      · have HV := Lib.hid h
        have ht : (a == 0) = true := by simp [h]
        clear h
        go_wp2
        go_round
        case rel => exact ⟨1, by omega, by go_num, by have := HZ.out; have := HV.out; unfold Z4 at *; omega⟩
        case measure => simp [intOf]
      · have hr : a = first4 a b c d := by have := HZ.out; unfold Z4 at this; unfold first4; rw [if_pos h]
        have HR := Lib.hid hr
        clear hr
        go_wp2
        go_ret
        exact RetB.of (ret_i64 HR.out) (below_alloc (Below.refl _ _) _)
    · have ix : ∀ w : World, (Instr.index 53 (.agg #[.int .i64 a, .int .i64 b, .int .i64 c, .int .i64 d]) (.int .i64 1)).run Try.prog w = .ok (.int .i64 b) w := fun _ => by kernel_rfl
      by_cases h : b = 0
      · have HV := Lib.hid h
        have ht : (b == 0) = true := by simp [h]
        clear h
        go_wp2
        go_round
        case rel => exact ⟨2, by omega, by go_num, by have := HZ.out; have := HV.out; unfold Z4 at *; omega⟩
        case measure => simp [intOf]
      · have hr : b = first4 a b c d := by have := HZ.out; unfold Z4 at this; unfold first4; simp [this.1 (by omega), h]
        have HR := Lib.hid hr
        clear hr
        go_wp2
        go_ret
        exact RetB.of (ret_i64 HR.out) (below_alloc (Below.refl _ _) _)
    · have ix : ∀ w : World, (Instr.index 53 (.agg #[.int .i64 a, .int .i64 b, .int .i64 c, .int .i64 d]) (.int .i64 2)).run Try.prog w = .ok (.int .i64 c) w := fun _ => by kernel_rfl
      by_cases h : c = 0
      · have HV := Lib.hid h
        have ht : (c == 0) = true := by simp [h]
        clear h
        go_wp2
        go_round
        case rel => exact ⟨3, by omega, by go_num, by have := HZ.out; have := HV.out; unfold Z4 at *; omega⟩
        case measure => simp [intOf]
      · have hr : c = first4 a b c d := by have := HZ.out; unfold Z4 at this; unfold first4; simp [this.1 (by omega), this.2.1 (by omega), h]
        have HR := Lib.hid hr
        clear hr
        go_wp2
        go_ret
        exact RetB.of (ret_i64 HR.out) (below_alloc (Below.refl _ _) _)
    · have ix : ∀ w : World, (Instr.index 53 (.agg #[.int .i64 a, .int .i64 b, .int .i64 c, .int .i64 d]) (.int .i64 3)).run Try.prog w = .ok (.int .i64 d) w := fun _ => by kernel_rfl
      by_cases h : d = 0
      · have HV := Lib.hid h
        have ht : (d == 0) = true := by simp [h]
        clear h
        go_wp2
        go_round
        case rel => exact ⟨4, by omega, by go_num, by have := HZ.out; have := HV.out; unfold Z4 at *; omega⟩
        case measure => simp [intOf]
      · have hr : d = first4 a b c d := by have := HZ.out; unfold Z4 at this; unfold first4; simp [this.1 (by omega), this.2.1 (by omega), this.2.2.1 (by omega)]
        have HR := Lib.hid hr
        clear hr
        go_wp2
        go_ret
        exact RetB.of (ret_i64 HR.out) (below_alloc (Below.refl _ _) _)
    · have hr : 0 = first4 a b c d := by have := HZ.out; unfold Z4 at this; unfold first4; simp [this.1 (by omega), this.2.1 (by omega), this.2.2.1 (by omega), this.2.2.2 (by omega)]
      have HR := Lib.hid hr
      clear hr
      go_wp2
      go_ret
      exact RetB.of (ret_i64 HR.out) (below_alloc (Below.refl _ _) _)

end Go.Proofs.Ytaaffpeppdinhaa

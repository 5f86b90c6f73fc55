/-
  Contracts of the small functions of layer 1, of the program and of the document's answer: Check, fits, place, Sum.
-/
import Derived.Test.YtmmilceemnggiaaRows
import Derived.Test.YtmmilceemnggiaaCLib
namespace Go.Proofs.Ytmmilceemnggiaa
open Go.RowKit

/-- A cell of type int64. -/
theorem infoI : (Try.prog.info? 2).map (fun i => (i.zero, i.size, i.bytes)) = some (some (.int .i64 0), 1, 8) := by kernel_rfl

theorem check_ok (A : Option Addr) (n c : Nat) (w : World) (h : n ≤ 65536) :
    Calls Try.prog 14 #[.slice A n c] w fun e w' => e = .returned (.int .i64 0) ∧ w = w' := by
  have h1 : decide ((65536 : Int) < (n : Int)) = false := by simp; omega
  go_enter Try.func14, Try.ntmps14
  go_wp2
  go_ret
  exact ⟨rfl, rfl⟩

theorem check_bad (A : Option Addr) (n c : Nat) (w : World) (h : 65536 < n) (hm : n ≤ 9223372036854775807) :
    Calls Try.prog 14 #[.slice A n c] w fun e w' => e = .returned (.int .i64 1) ∧ w = w' := by
  have h1 : decide ((65536 : Int) < (n : Int)) = true := by simp; omega
  go_enter Try.func14, Try.ntmps14
  go_wp2
  go_ret
  exact ⟨rfl, rfl⟩

theorem rcheck_ok (A : Option Addr) (n c : Nat) (w : World) (h : n ≤ 65536) :
    Calls Try.prog 15 #[.slice A n c] w fun e w' => e = .returned (.int .i64 0) ∧ w = w' := by
  have h1 : decide ((65536 : Int) < (n : Int)) = false := by simp; omega
  go_enter Try.func15, Try.ntmps15
  go_wp2
  go_ret
  exact ⟨rfl, rfl⟩

theorem rcheck_bad (A : Option Addr) (n c : Nat) (w : World) (h : 65536 < n) (hm : n ≤ 9223372036854775807) :
    Calls Try.prog 15 #[.slice A n c] w fun e w' => e = .returned (.int .i64 1) ∧ w = w' := by
  have h1 : decide ((65536 : Int) < (n : Int)) = true := by simp; omega
  go_enter Try.func15, Try.ntmps15
  go_wp2
  go_ret
  exact ⟨rfl, rfl⟩

theorem fits_yes (a b : Int) (w : World) (ha : Fit a) (hb : Fit b) (h : Fit (a + b)) :
    Calls Try.prog 29 #[.int .i64 a, .int .i64 b] w fun e w' => e = .returned (.bool true) ∧ w = w' := by
  unfold Fit at ha hb h
  obtain ⟨a1, a2⟩ := ha
  obtain ⟨b1, b2⟩ := hb
  obtain ⟨s1, s2⟩ := h
  have hx : (decide (a + b < a) == decide (b < 0)) = true := by
    by_cases hn : b < 0
    · rw [decide_eq_true hn, decide_eq_true (by omega : a + b < a)]; rfl
    · rw [decide_eq_false hn, decide_eq_false (by omega : ¬ a + b < a)]; rfl
  have H := Lib.hid hx
  clear hx
  go_enter Try.func29, Try.ntmps29
  go_wp2
  go_ret
  exact ⟨ret_bool H.out, rfl⟩

theorem wrap_cases (a b : Int) (ha : Fit a) (hb : Fit b) (h : ¬ Fit (a + b)) :
    (0 < a ∧ 0 < b ∧ wrap64 (a + b) < 0 ∧ wrap64 (a + b) < a) ∨ (a < 0 ∧ b < 0 ∧ 0 ≤ wrap64 (a + b) ∧ a ≤ wrap64 (a + b)) := by
  unfold Fit at ha hb h
  unfold wrap64
  omega

theorem fits_no (a b : Int) (w : World) (ha : Fit a) (hb : Fit b) (h : ¬ Fit (a + b)) :
    Calls Try.prog 29 #[.int .i64 a, .int .i64 b] w fun e w' => e = .returned (.bool false) ∧ w = w' := by
  have hx : (decide (wrap64 (a + b) < a) == decide (b < 0)) = false := by
    rcases wrap_cases a b ha hb h with ⟨_, h2, _, h4⟩ | ⟨_, h2, _, h4⟩
    · rw [decide_eq_true h4, decide_eq_false (by omega : ¬ b < 0)]; rfl
    · rw [decide_eq_true h2, decide_eq_false (by omega : ¬ wrap64 (a + b) < a)]; rfl
  have H := Lib.hid hx
  clear hx h
  unfold Fit at ha hb
  obtain ⟨a1, a2⟩ := ha
  obtain ⟨b1, b2⟩ := hb
  go_enter Try.func29, Try.ntmps29
  go_wp2
  go_ret
  exact ⟨ret_bool H.out, rfl⟩

theorem sum_yes (a b : Int) (w : World) (ha : Fit a) (hb : Fit b) (h : Fit (a + b)) :
    Calls Try.prog 27 #[.int .i64 a, .int .i64 b] w fun e w' => e = .returned (.tuple #[.int .i64 (a + b), .bool true]) ∧ w = w' := by
  unfold Fit at ha hb h
  obtain ⟨a1, a2⟩ := ha
  obtain ⟨b1, b2⟩ := hb
  obtain ⟨s1, s2⟩ := h
  go_enter Try.func27, Try.ntmps27
  go_wp2
  all_goals
    first | omega | (go_ret2; exact ⟨rfl, rfl⟩)

theorem sum_no (a b : Int) (w : World) (ha : Fit a) (hb : Fit b) (h : ¬ Fit (a + b)) :
    Calls Try.prog 27 #[.int .i64 a, .int .i64 b] w fun e w' => e = .returned (.tuple #[.int .i64 0, .bool false]) ∧ w = w' := by
  have hw := wrap_cases a b ha hb h
  clear h
  unfold Fit at ha hb
  obtain ⟨a1, a2⟩ := ha
  obtain ⟨b1, b2⟩ := hb
  rcases hw with ⟨h1, h2, h3, _⟩ | ⟨h1, h2, h3, _⟩
  all_goals
    go_enter Try.func27, Try.ntmps27
    go_wp2
    all_goals
      first | omega | (go_ret2; exact ⟨rfl, rfl⟩)

end Go.Proofs.Ytmmilceemnggiaa

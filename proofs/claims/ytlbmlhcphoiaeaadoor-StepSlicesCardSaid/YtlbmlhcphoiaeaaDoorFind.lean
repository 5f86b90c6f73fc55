/-
  Contracts of the functions of layer 4 that look for an instruction: the first exit, the first one that spawns what is not there, a program up to its exit; the program's and the document's.
-/
import Derived.Test.YtlbmlhcphoiaeaaDoorMath
import Derived.Test.YtlbmlhcphoiaeaaDoorRows
namespace Go.Proofs.YtlbmlhcphoiaeaaDoor
open Go.RowKit

theorem isExit_any (o a b : Int) (w : World) : Calls Tryd.prog 41 #[.agg #[.int .i64 o, .int .i64 a, .int .i64 b]] w (RetB (.bool (o == 9)) w) := by
  go_enter Tryd.func41, Tryd.ntmps41
  go_wp2
  go_ret
  exact RetB.of rfl ((Below.refl _ _).alloc (Nat.le_refl _) _)

/-- What the closure of CheckAll asks: does it spawn what is not there? -/
def wild (N : Nat) (o a : Int) : Bool := decide (o = 2 ∧ (N : Int) ≤ a)

/-- What IndexFunc hands back: the first one of which the question comes to yes, or -1. -/
def FirstIs (q : Nat → Bool) (n : Nat) (w : World) (e : Ending) (w' : World) : Prop :=
  ∃ r : Int, e = .returned (.int .i64 r) ∧ ((r = -1 ∧ ∀ j, j < n → q j = false) ∨ ∃ k : Nat, k < n ∧ r = k ∧ q k = true ∧ ∀ j, j < k → q j = false) ∧ Below w.heap.size w w'

def qExit (p : List I3) (j : Nat) : Bool := jO p j == 9
def qWild (N : Nat) (p : List I3) (j : Nat) : Bool := wild N (jO p j) (jA p j)

/-- The relation of IndexFunc's loop. -/
def FindRel (q : Nat → Bool) (n : Nat) (w : World) (t : Value) (wr : World) : Prop := ∃ k : Nat, k ≤ n ∧ t = .int .i64 k ∧ (∀ j, j < k → q j = false) ∧ Below w.heap.size w wr

theorem bool_no {b : Bool} (h : ¬ b = true) : b = false := by cases b <;> simp_all

set_option maxHeartbeats 1000000 in
theorem index_exit (A : Option Addr) (n c : Nat) (p : List I3) (w : World) (hp : Prog w A n c p) :
    Calls Tryd.prog 40 #[.slice A n c, .func (.func 41) #[] #[]] w (FirstIs (qExit p) n w) := by
  have HP := Lib.hid hp
  have hn := Nat.le_trans hp.2.1.1 hp.2.1.2
  clear hp
  go_enter Tryd.func40, Tryd.ntmps40
  go_wp2
  go_loopw [8] (fun t wr => FindRel (qExit p) n w t wr) (fun t _ => n - (intOf t).toNat)
  case atStart => exact ⟨0, Nat.zero_le _, rfl, fun j hj => absurd hj (by omega), Below.refl _ _⟩
  case round =>
    obtain ⟨k, hk, rfl, hq, hb⟩ := hrel
    have HQ := Lib.hid hq
    have HB := Lib.hid hb
    clear hq hb
    by_cases hlt : k < n
    · obtain ⟨b, o, rfl, hbl, h0, h1, h2⟩ := (HP.out.below HB.out).at_ hlt
      go_wp2_with fail
      refine (isExit_any _ _ _ _).mono ?_
      rintro e w1 ⟨rfl, hb1⟩
      have HB1 := Lib.hid (below3 HB.out hb1)
      clear hb1
      by_cases hx : (jO p k == 9) = true
      · go_wp2
        go_ret
        exact ⟨k, rfl, .inr ⟨k, hlt, rfl, hx, HQ.out⟩, HB1.out⟩
      · replace hx := bool_no hx
        go_wp2
        go_roundw
        case rel => exact ⟨k + 1, by omega, by go_num, fun j hj => (by
          rcases Nat.lt_or_ge j k with h | h
          · exact HQ.out j h
          · obtain rfl : j = k := by omega
            exact hx), HB1.out⟩
        case measure => simp [intOf]; omega
    · go_wp2
      go_ret
      exact ⟨-1, rfl, .inl ⟨rfl, fun j hj => HQ.out j (by omega)⟩, HB.out⟩

/-- ContainsFunc: is there one? -/
def SomeIs (q : Nat → Bool) (n : Nat) (w : World) (e : Ending) (w' : World) : Prop :=
  ∃ r : Bool, e = .returned (.bool r) ∧ (r = true → ∃ k, k < n ∧ q k = true) ∧ (r = false → ∀ j, j < n → q j = false) ∧ Below w.heap.size w w'

theorem toExit_any (A : Option Addr) (n c : Nat) (p : List I3) (w : World) (hp : Prog w A n c p) :
    Calls Tryd.prog 31 #[.slice A n c] w (RetB (.slice A (runLen p) c) w) := by
  go_enter Tryd.func31, Tryd.ntmps31
  go_wp2_with fail
  refine (index_exit A n c p w hp).mono ?_
  rintro e w1 ⟨r, rfl, hr, hb1⟩
  have HB := Lib.hid hb1
  have hn := Nat.le_trans hp.2.1.1 hp.2.1.2
  have hl := hp.1
  clear hb1
  rcases hr with ⟨rfl, hr⟩ | ⟨k, hk, rfl, h1, h2⟩
  · have H : Hid (runLen p = n) := Lib.hid (by rw [runLen_none (fun j hj => by have := hr j (by omega); simpa [qExit] using this), hl])
    clear hr hl
    go_wp2
    go_ret
    rw [H.out]
    exact RetB.of rfl HB.out
  · have H : Hid (runLen p = k + 1) := Lib.hid (runLen_exit (by omega) (fun j hj => by have := h2 j hj; simpa [qExit] using this) (by simpa [qExit] using h1))
    have hc1 : (k : Int) + 1 ≤ (c : Int) := by have := hp.2.1.1; omega
    have hc2 : (0 : Int) ≤ (k : Int) + 1 := by omega
    clear h1 h2 hl
    go_wp2
    go_ret
    rw [H.out]
    exact RetB.of rfl HB.out

end Go.Proofs.YtlbmlhcphoiaeaaDoor

/-
  Contracts of the functions of layer 4 that look for an instruction: the first exit, the first one that spawns what is not there, a program up to its exit; the program's and the document's.
-/
import Derived.Test.YtpfnoohcilefhaaMath
import Derived.Test.YtpfnoohcilefhaaRows
namespace Go.Proofs.Ytpfnoohcilefhaa
open Go.RowKit

/-- What the closure of CheckAll asks: does it spawn what is not there? -/
def wild (N : Nat) (o a : Int) : Bool := decide (o = 2 ∧ (N : Int) ≤ a)

theorem isWild_any (g : Nat) (L : Option Addr) (N c : Nat) (o a b : Int) (w : World) (hk : Bk w g 23 #[.slice L N c]) :
    Calls Try.prog 66 #[.agg #[.int .i64 o, .int .i64 a, .int .i64 b], .pointer (some ⟨g, 0, none⟩)] w (RetB (.bool (wild N o a)) w) := by
  have c0 : (w.alloc (.cells #[.int .i64 o, .int .i64 a, .int .i64 b] 61)).cell? ⟨g, 0, none⟩ = some (.slice L N c) := ((hk.alloc _).cell 0).trans rfl
  clear hk
  by_cases h : o = 2
  · subst h
    have H : Hid (decide ((N : Int) ≤ a) = wild N 2 a) := Lib.hid (by simp [wild])
    go_enter Try.func66, Try.ntmps66
    go_wp2
    go_ret
    exact RetB.of (ret_bool H.out) ((Below.refl _ _).alloc (Nat.le_refl _) _)
  · have H : Hid (false = wild N o a) := Lib.hid (by simp [wild, h])
    have h2 : (o == 2) = false := by simpa using h
    clear h
    go_enter Try.func66, Try.ntmps66
    go_wp2
    go_ret
    exact RetB.of (ret_bool H.out) ((Below.refl _ _).alloc (Nat.le_refl _) _)

/-- What IndexFunc hands back: the first one of which the question comes to yes, or -1. -/
def FirstIs (q : Nat → Bool) (n : Nat) (w : World) (e : Ending) (w' : World) : Prop :=
  ∃ r : Int, e = .returned (.int .i64 r) ∧ ((r = -1 ∧ ∀ j, j < n → q j = false) ∨ ∃ k : Nat, k < n ∧ r = k ∧ q k = true ∧ ∀ j, j < k → q j = false) ∧ Below w.heap.size w w'

def qExit (p : List I3) (j : Nat) : Bool := jO p j == 9
def qWild (N : Nat) (p : List I3) (j : Nat) : Bool := wild N (jO p j) (jA p j)

/-- The relation of IndexFunc's loop. -/
def FindRel (q : Nat → Bool) (n : Nat) (w : World) (t : Value) (wr : World) : Prop := ∃ k : Nat, k ≤ n ∧ t = .int .i64 k ∧ (∀ j, j < k → q j = false) ∧ Below w.heap.size w wr

theorem bool_no {b : Bool} (h : ¬ b = true) : b = false := by cases b <;> simp_all

set_option maxHeartbeats 1000000 in
theorem index_wild (g : Nat) (L : Option Addr) (N d : Nat) (A : Option Addr) (n c : Nat) (p : List I3) (w : World) (hp : Prog w A n c p) (hk : Bk w g 23 #[.slice L N d]) :
    Calls Try.prog 68 #[.slice A n c, .func (.func 66) #[] #[.pointer (some ⟨g, 0, none⟩)]] w (FirstIs (qWild N p) n w) := by
  have HP := Lib.hid hp
  have HK := Lib.hid hk
  have hn := Nat.le_trans hp.2.1.1 hp.2.1.2
  clear hp hk
  go_enter Try.func68, Try.ntmps68
  go_wp2
  go_loopw [8] (fun t wr => FindRel (qWild N p) n w t wr) (fun t _ => n - (intOf t).toNat)
  case atStart => exact ⟨0, Nat.zero_le _, rfl, fun j hj => absurd hj (by omega), Below.refl _ _⟩
  case round =>
    obtain ⟨k, hk, rfl, hq, hb⟩ := hrel
    have HQ := Lib.hid hq
    have HB := Lib.hid hb
    clear hq hb
    by_cases hlt : k < n
    · obtain ⟨b, o, rfl, hbl, h0, h1, h2⟩ := (HP.out.below HB.out).at_ hlt
      go_wp2_with fail
      refine (isWild_any g L N d _ _ _ _ (HK.out.below HB.out HK.out.lt)).mono ?_
      rintro e w1 ⟨rfl, hb1⟩
      have HB1 := Lib.hid (below3 HB.out hb1)
      clear hb1
      by_cases hx : wild N (jO p k) (jA p k) = true
      · go_wp2
        go_ret
        exact ⟨k, rfl, .inr ⟨k, hlt, rfl, hx, HQ.out⟩, HB1.out⟩
      · replace hx := bool_no hx
        go_wp2
        go_roundw
        case rel => exact ⟨k + 1, by omega, by go_num, fun j hj => (by
          rcases Nat.lt_or_ge j k with h | h
          · exact HQ.out j h
          · obtain rfl : j = k := by omega
            exact hx), HB1.out⟩
        case measure => simp [intOf]; omega
    · go_wp2
      go_ret
      exact ⟨-1, rfl, .inl ⟨rfl, fun j hj => HQ.out j (by omega)⟩, HB.out⟩

/-- ContainsFunc: is there one? -/
def SomeIs (q : Nat → Bool) (n : Nat) (w : World) (e : Ending) (w' : World) : Prop :=
  ∃ r : Bool, e = .returned (.bool r) ∧ (r = true → ∃ k, k < n ∧ q k = true) ∧ (r = false → ∀ j, j < n → q j = false) ∧ Below w.heap.size w w'

theorem contains_wild (g : Nat) (L : Option Addr) (N d : Nat) (A : Option Addr) (n c : Nat) (p : List I3) (w : World) (hp : Prog w A n c p) (hk : Bk w g 23 #[.slice L N d]) :
    Calls Try.prog 52 #[.slice A n c, .func (.func 66) #[] #[.pointer (some ⟨g, 0, none⟩)]] w (SomeIs (qWild N p) n w) := by
  go_enter Try.func52, Try.ntmps52
  go_wp2_with fail
  refine (index_wild g L N d A n c p w hp hk).mono ?_
  rintro e w1 ⟨r, rfl, hr, hb1⟩
  have HR := Lib.hid hr
  have HB := Lib.hid hb1
  clear hr hb1
  go_wp2
  go_ret
  refine ⟨decide (0 ≤ r), rfl, fun h => ?_, fun h => ?_, HB.out⟩
  · have h := of_decide_eq_true h
    rcases HR.out with ⟨h1, _⟩ | ⟨k, hk, h1, h2, _⟩
    · omega
    · exact ⟨k, hk, h2⟩
  · have h := of_decide_eq_false h
    rcases HR.out with ⟨_, h1⟩ | ⟨k, hk, h1, h2, _⟩
    · exact h1
    · omega

end Go.Proofs.Ytpfnoohcilefhaa

/-
  Plain mathematics for the counting of tasks: who comes to spawn whom; a program that comes to spawn itself is never known; sums that stay at a bound.
-/
import Derived.Test.YtcbgmhbmdklbfaaMath
namespace Go.Proofs.Ytcbgmhbmdklbfaa

/-- Program i spawns a, ahead of its exit. -/
def Spawns (l : List (List I3)) (i a : Nat) : Prop := ∃ k, k < runLen (pth l i) ∧ jO (pth l i) k = 2 ∧ (jA (pth l i) k).toNat = a

/-- Program j comes to spawn a. -/
inductive Reach (l : List (List I3)) (j : Nat) : Nat → Prop
  | one {a : Nat} : Spawns l j a → Reach l j a
  | more {i a : Nat} : Reach l j i → Spawns l i a → Reach l j a

section
variable {l : List (List I3)}
theorem spawn_less {i a f c : Nat} (h : Spawns l i a) (hc : cnt l f i = some c) : ∃ f' c', cnt l f' a = some c' ∧ c' < c := by
  obtain ⟨k, hk, ho, ha⟩ := h
  match f, hc with
  | f + 1, hc =>
    obtain ⟨m, hm, hlt⟩ := kids_each (show kidsK (cnt l f) (pth l i) (runLen (pth l i)) = some c from hc) k hk ho
    exact ⟨f, m, by rw [← ha]; exact hm, hlt⟩

theorem reach_less {j i : Nat} (h : Reach l j i) : ∀ f c, cnt l f j = some c → ∃ f' c', cnt l f' i = some c' ∧ c' < c := by
  induction h with
  | one hs => intro f c hc; exact spawn_less hs hc
  | more _ hs ih =>
    intro f c hc
    obtain ⟨f1, c1, h1, h2⟩ := ih f c hc
    obtain ⟨f2, c2, h3, h4⟩ := spawn_less hs h1
    exact ⟨f2, c2, h3, by omega⟩

theorem reach_self {i : Nat} (h : Reach l i i) (f : Nat) : cnt l f i = none := by
  cases hc : cnt l f i with
  | none => rfl
  | some c =>
    obtain ⟨f', c', h1, h2⟩ := reach_less h f c hc
    have := cnt_same hc h1
    omega

theorem child_none {i a : Nat} (h : Spawns l i a) (ha : ∀ f, cnt l f a = none) (f : Nat) : cnt l f i = none := by
  cases hc : cnt l f i with
  | none => rfl
  | some c =>
    obtain ⟨f', c', h1, _⟩ := spawn_less h hc
    rw [ha] at h1
    cases h1
end

/-- It stays at a bound. -/
def satN (b s : Nat) : Nat := min s b
theorem sat_le (b s : Nat) : satN b s ≤ b := by unfold satN; omega
theorem sat_pos {b s : Nat} (hb : 1 ≤ b) (hs : 1 ≤ s) : 1 ≤ satN b s := by unfold satN; omega
theorem sat_add (b s t : Nat) : satN b (satN b s + satN b t) = satN b (s + t) := by unfold satN; omega

/-- A number that is kept of program j: none yet, or what it comes to, as far as the bound. -/
def Known (b : Nat) (l : List (List I3)) (x : Int) (j : Nat) : Prop := x = 0 ∨ ∃ f c, cnt l f j = some c ∧ x = (satN b c : Nat)

/-- How many of the first n meet it. -/
def many (q : Nat → Bool) (n : Nat) : Nat := ((List.range n).filter q).length
theorem many_le (q : Nat → Bool) (n : Nat) : many q n ≤ n := by
  have := List.length_filter_le q (List.range n)
  rwa [List.length_range] at this
theorem many_put {q : Nat → Bool} {n i : Nat} (hi : i < n) (h : q i = false) : many q n + 1 ≤ many (fun j => q j || j == i) n :=
  (count_more (List.range n) q (fun j => q j || j == i) (fun x hx => by simp [hx])).2 ⟨i, List.mem_range.2 hi, by simp, h⟩

end Go.Proofs.Ytcbgmhbmdklbfaa

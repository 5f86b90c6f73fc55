/-
  All lists together have as many nodes as are in some: plain mathematics, over no program.
-/
import Derived.Test.YtiheeehegjfmgaaChM
namespace Go.Proofs.Ytiheeehegjfmgaa

/-- How many numbers below n are told. -/
def cntP (f : Nat → Bool) : Nat → Nat
  | 0 => 0
  | n + 1 => cntP f n + (if f n then 1 else 0)
theorem cntP_congr {f g : Nat → Bool} : ∀ n, (∀ x, x < n → f x = g x) → cntP f n = cntP g n
  | 0, _ => rfl
  | n + 1, h => by rw [cntP, cntP, cntP_congr n (fun x hx => h x (by omega)), h n (by omega)]
theorem cntP_le (f : Nat → Bool) : ∀ n, cntP f n ≤ n
  | 0 => Nat.le_refl _
  | n + 1 => by have := cntP_le f n; rw [cntP]; split <;> omega
theorem cntP_zero (n : Nat) : cntP (fun _ => false) n = 0 := by
  induction n with
  | zero => rfl
  | succ n ih => rw [cntP, ih]; rfl
theorem cntP_more {f g : Nat → Bool} {x : Nat} (hg : ∀ y, g y = (f y || y == x)) (hf : f x = false) : ∀ n, x < n → cntP g n = cntP f n + 1
  | 0, h => by omega
  | n + 1, h => by
    rw [cntP, cntP]
    by_cases e : x = n
    · subst e
      rw [cntP_congr (f := g) (g := f) x (fun y hy => by rw [hg]; have : (y == x) = false := by simp; omega
                                                         rw [this, Bool.or_false]), hg, hf]
      simp
    · rw [cntP_more hg hf n (by omega), hg]
      have : (n == x) = false := by simp; omega
      rw [this, Bool.or_false]
      omega

/-- The nodes of the lists ahead of list i, and those of list i ahead of place p. -/
def Got (qs : List (List Int)) (i p : Nat) (y : Nat) : Prop := (∃ j q, j < i ∧ q < (qth qs j).length ∧ nth (qth qs j) q = (y : Int)) ∨ ∃ q, q < p ∧ q < (qth qs i).length ∧ nth (qth qs i) q = (y : Int)
open Classical in
noncomputable def gotB (qs : List (List Int)) (i p : Nat) (y : Nat) : Bool := decide (Got qs i p y)
/-- How many nodes the first lists have together. -/
def sumL (qs : List (List Int)) : Nat → Nat
  | 0 => 0
  | i + 1 => sumL qs i + (qth qs i).length

section
variable {next head tail : List Int} {qs : List (List Int)}
theorem got_step (r : Rep next head tail qs) {i : Nat} (hi : i < qs.length) : ∀ p, p ≤ (qth qs i).length → cntP (gotB qs i p) next.length = cntP (gotB qs i 0) next.length + p
  | 0, _ => rfl
  | p + 1, h => by
    have hr := r.rng i p hi (by omega)
    obtain ⟨x, hx⟩ : ∃ x : Nat, nth (qth qs i) p = x := ⟨(nth (qth qs i) p).toNat, by omega⟩
    rw [hx] at hr
    have h1 : ∀ y, gotB qs i (p + 1) y = (gotB qs i p y || y == x) := by
      intro y
      rw [Bool.eq_iff_iff]
      simp only [gotB, Bool.or_eq_true, decide_eq_true_eq, beq_iff_eq]
      constructor
      · rintro (h1 | ⟨q, h1, h2, h3⟩)
        · exact .inl (.inl h1)
        · by_cases e : q = p
          · subst e; right; omega
          · exact .inl (.inr ⟨q, by omega, h2, h3⟩)
      · rintro ((h1 | ⟨q, h1, h2, h3⟩) | rfl)
        · exact .inl h1
        · exact .inr ⟨q, by omega, h2, h3⟩
        · exact .inr ⟨p, by omega, by omega, hx⟩
    have h2 : gotB qs i p x = false := by
      simp only [gotB, decide_eq_false_iff_not]
      rintro (⟨j, q, h1, h2, h3⟩ | ⟨q, h1, h2, h3⟩)
      · have := (r.one j i q p (by omega) hi h2 (by omega) (by omega)).1
        omega
      · have := (r.one i i q p hi hi h2 (by omega) (by omega)).2
        omega
    rw [cntP_more h1 h2 _ (by omega), got_step r hi p (by omega), Nat.add_assoc]
theorem got_lists (r : Rep next head tail qs) : ∀ i, i ≤ qs.length → cntP (gotB qs i 0) next.length = sumL qs i
  | 0, _ => by
    rw [cntP_congr (g := fun _ => false) _ (fun x _ => by
      simp only [gotB, decide_eq_false_iff_not]
      rintro (⟨j, q, h, _⟩ | ⟨q, h, _⟩) <;> omega), cntP_zero]
    rfl
  | i + 1, h => by
    rw [sumL, ← got_lists r i (by omega), ← got_step r (i := i) (by omega) _ (Nat.le_refl _)]
    refine cntP_congr _ fun x _ => ?_
    simp only [gotB]
    rw [Bool.eq_iff_iff]
    simp only [decide_eq_true_eq]
    constructor
    · rintro (⟨j, q, h1, h2, h3⟩ | ⟨q, h1, _⟩)
      · by_cases e : j = i
        · subst e; exact .inr ⟨q, h2, h2, h3⟩
        · exact .inl ⟨j, q, by omega, h2, h3⟩
      · omega
    · rintro (⟨j, q, h1, h2, h3⟩ | ⟨q, h1, h2, h3⟩)
      · exact .inl ⟨j, q, by omega, h2, h3⟩
      · exact .inl ⟨i, q, by omega, h2, h3⟩

/-- Is a node in some list? -/
noncomputable def someB (qs : List (List Int)) (y : Nat) : Bool := whereQ qs (y : Int) != -1
/-- All lists together have as many nodes as are in some. -/
theorem all_some (r : Rep next head tail qs) : sumL qs qs.length = cntP (someB qs) next.length := by
  rw [← got_lists r _ (Nat.le_refl _)]
  refine cntP_congr _ fun x hx => ?_
  rw [Bool.eq_iff_iff]
  simp only [gotB, someB, decide_eq_true_eq, bne_iff_ne]
  constructor
  · rintro (⟨j, q, h1, h2, h3⟩ | ⟨q, h1, h2, h3⟩)
    · rw [r.where_at h1 (h3 ▸ nth_mem_ h2)]; omega
    · rw [qth_beyond (Nat.le_refl _)] at h2; simp at h2
  · intro h
    by_cases h' : ∃ i, i < qs.length ∧ (x : Int) ∈ qth qs i
    · obtain ⟨i, hi, hm⟩ := h'
      obtain ⟨p, hp, e⟩ := mem_nth hm
      exact .inl ⟨i, p, hi, hp, e⟩
    · exact absurd (where_no fun i hi hm => h' ⟨i, hi, hm⟩) h
theorem sumL_le (r : Rep next head tail qs) {i : Nat} (h : i ≤ qs.length) : sumL qs i ≤ 1024 := by
  rw [← got_lists r i h]
  have := cntP_le (gotB qs i 0) next.length
  have := r.few
  omega
end

end Go.Proofs.Ytiheeehegjfmgaa

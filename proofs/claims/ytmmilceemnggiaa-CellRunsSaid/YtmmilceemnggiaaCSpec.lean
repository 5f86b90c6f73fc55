/-
  What an access of cells comes to, as a function on lists (the document's layer 1, P1.2 and P1.3): the cells, what is told, the error's number. Plain mathematics: nothing here speaks of a translation.
-/
import Derived.Test.YtmmilceemnggiaaCLib
namespace Go.Proofs.Ytmmilceemnggiaa
open Go.RowKit

instance (z : Int) : Decidable (Fit z) := by unfold Fit; exact inferInstance

/-- One access: its kind, its place, two numbers. -/
def acc (zs : List Int) (k p a b : Int) : List Int × Int × Int :=
  if p < 0 ∨ (zs.length : Int) ≤ p then ([], 0, 1)
  else if k = 0 then (zs, nth zs p.toNat, 0)
  else if k = 1 then (zs.set p.toNat a, 0, 0)
  else if k = 2 then (if nth zs p.toNat = a then (zs.set p.toNat b, 1, 0) else (zs, 0, 0))
  else if k = 3 then (if Fit (nth zs p.toNat + a) then (zs.set p.toNat (nth zs p.toNat + a), nth zs p.toNat, 0) else ([], 0, 4))
  else ([], 0, 1)

section
variable {zs : List Int} {k p a b : Int} {j : Nat}
theorem acc_out (h : p < 0 ∨ (zs.length : Int) ≤ p) : acc zs k p a b = ([], 0, 1) := if_pos h
theorem acc_load (h : j < zs.length) : acc zs 0 j a b = (zs, nth zs j, 0) := by
  unfold acc; rw [if_neg (by omega)]; simp
theorem acc_store (h : j < zs.length) : acc zs 1 j a b = (zs.set j a, 0, 0) := by
  unfold acc; rw [if_neg (by omega)]; simp
theorem acc_cas_yes (h : j < zs.length) (e : nth zs j = a) : acc zs 2 j a b = (zs.set j b, 1, 0) := by
  unfold acc; rw [if_neg (by omega)]; simp [e]
theorem acc_cas_no (h : j < zs.length) (e : nth zs j ≠ a) : acc zs 2 j a b = (zs, 0, 0) := by
  unfold acc; rw [if_neg (by omega)]; simp [e]
theorem acc_add_yes (h : j < zs.length) (e : Fit (nth zs j + a)) : acc zs 3 j a b = (zs.set j (nth zs j + a), nth zs j, 0) := by
  unfold acc; rw [if_neg (by omega)]; simp [e]
theorem acc_add_no (h : j < zs.length) (e : ¬ Fit (nth zs j + a)) : acc zs 3 j a b = ([], 0, 4) := by
  unfold acc; rw [if_neg (by omega)]; simp [e]
theorem acc_other (h : j < zs.length) (h0 : k ≠ 0) (h1 : k ≠ 1) (h2 : k ≠ 2) (h3 : k ≠ 3) : acc zs k j a b = ([], 0, 1) := by
  unfold acc; rw [if_neg (by omega)]; simp [h0, h1, h2, h3]

theorem fit_nth (hf : ∀ z ∈ zs, Fit z) (h : j < zs.length) : Fit (nth zs j) := by
  rw [nth_get h]; exact hf _ (List.getElem_mem h)

theorem fit_set (hf : ∀ z ∈ zs, Fit z) {x : Int} (hx : Fit x) : ∀ z ∈ zs.set j x, Fit z := fun z hz => by
  rcases List.mem_or_eq_of_mem_set hz with h | h
  · exact hf z h
  · exact h ▸ hx

/-- What an access leaves, and tells, goes into 64 bits. -/
theorem acc_fit (hf : ∀ z ∈ zs, Fit z) (ha : Fit a) (hb : Fit b) :
    (∀ z ∈ (acc zs k p a b).1, Fit z) ∧ Fit (acc zs k p a b).2.1 ∧ ((acc zs k p a b).2.2 = 0 ∨ (acc zs k p a b).2.2 = 1 ∨ (acc zs k p a b).2.2 = 4) := by
  have f0 : Fit 0 := by unfold Fit; omega
  have f1 : Fit 1 := by unfold Fit; omega
  by_cases h : p < 0 ∨ (zs.length : Int) ≤ p
  · rw [acc_out h]; exact ⟨by simp, f0, .inr (.inl rfl)⟩
  · obtain ⟨i, rfl⟩ : ∃ i : Nat, p = i := ⟨p.toNat, by omega⟩
    have hi : i < zs.length := by omega
    have fn := fit_nth hf hi
    by_cases k0 : k = 0
    · subst k0; rw [acc_load hi]; exact ⟨hf, fn, .inl rfl⟩
    by_cases k1 : k = 1
    · subst k1; rw [acc_store hi]; exact ⟨fit_set hf ha, f0, .inl rfl⟩
    by_cases k2 : k = 2
    · subst k2
      by_cases e : nth zs i = a
      · rw [acc_cas_yes hi e]; exact ⟨fit_set hf hb, f1, .inl rfl⟩
      · rw [acc_cas_no hi e]; exact ⟨hf, f0, .inl rfl⟩
    by_cases k3 : k = 3
    · subst k3
      by_cases e : Fit (nth zs i + a)
      · rw [acc_add_yes hi e]; exact ⟨fit_set hf e, fn, .inl rfl⟩
      · rw [acc_add_no hi e]; exact ⟨by simp, f0, .inr (.inr rfl)⟩
    · rw [acc_other hi k0 k1 k2 k3]; exact ⟨by simp, f0, .inr (.inl rfl)⟩

/-- With no error there are as many cells as before. -/
theorem acc_len (h : (acc zs k p a b).2.2 = 0) : (acc zs k p a b).1.length = zs.length := by
  revert h
  unfold acc
  repeat' split
  all_goals simp
end

end Go.Proofs.Ytmmilceemnggiaa

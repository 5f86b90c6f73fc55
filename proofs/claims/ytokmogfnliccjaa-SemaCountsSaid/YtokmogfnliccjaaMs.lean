/-
  Plain mathematics of layer 10: who may wait; what take, give, drop come to, way by way.
-/
import Derived.Test.YtokmogfnliccjaaLv
namespace Go.Proofs.Ytokmogfnliccjaa
open Go.RowKit

theorem nth_take {l : List Int} {i k : Nat} (h : i < k) (hk : k ≤ l.length) : nth (l.take k) i = nth l i := by
  rw [nth_get (show i < (l.take k).length by rw [List.length_take]; omega), nth_get (show i < l.length by omega), List.getElem_take]
theorem mem_take {l : List Int} {k : Nat} {x : Int} (hk : k ≤ l.length) : x ∈ l.take k ↔ ∃ j, j < k ∧ nth l j = x := by
  rw [mem_nth]
  constructor
  · rintro ⟨j, hj, e⟩
    rw [List.length_take] at hj
    exact ⟨j, by omega, by rw [← nth_take (k := k) (by omega) hk]; exact e⟩
  · rintro ⟨j, hj, e⟩
    exact ⟨j, by rw [List.length_take]; omega, by rw [nth_take hj hk]; exact e⟩
theorem okTo_iff {l : List Int} : OkTo l l.length ↔ (∀ x ∈ l, 0 ≤ x) ∧ l.Nodup := by
  constructor
  · intro h
    refine ⟨fun x hx => ?_, ?_⟩
    · obtain ⟨j, hj, e⟩ := mem_nth.1 hx
      rw [← e]
      exact (h j hj).1
    · rw [List.Nodup, List.pairwise_iff_getElem]
      intro i j hi hj hij e
      refine (h j hj).2 ((mem_take (by omega)).2 ⟨i, hij, ?_⟩)
      rw [nth_get hi, nth_get hj]
      exact e
  · rintro ⟨h1, h2⟩ i hi
    refine ⟨h1 _ (mem_nth.2 ⟨i, hi, rfl⟩), fun hm => ?_⟩
    obtain ⟨j, hj, e⟩ := (mem_take (by omega)).1 hm
    rw [List.Nodup, List.pairwise_iff_getElem] at h2
    have := h2 j i (by omega) hi hj
    rw [← nth_get (show j < l.length by omega), ← nth_get hi] at this
    exact this e
theorem semOk_nodup {z : Int} {l : List Int} : semOk z l ↔ 0 ≤ z ∧ z ≤ 1000 ∧ l.length ≤ 256 ∧ (z ≤ 0 ∨ l.length = 0) ∧ (∀ x ∈ l, 0 ≤ x) ∧ l.Nodup := by
  unfold semOk
  rw [okTo_iff]
theorem wo_nodup {l : List Int} (h : l.Nodup) (x : Int) : (wo l x).Nodup := List.Pairwise.filter _ h
theorem wo_first {l : List Int} (h : l.Nodup) (hl : 0 < l.length) : wo l (nth l 0) = l.drop 1 := by
  cases l with
  | nil => simp at hl
  | cons x t =>
    have hx : x ∉ t := (List.nodup_cons.1 h).1
    have : wo t x = t := wo_none hx
    unfold wo at this
    simpa [wo, nth] using this
theorem wo_last {l : List Int} {x : Int} (h : x ∉ l) : wo (l ++ [x]) x = l := by
  have : wo l x = l := wo_none h
  unfold wo at this ⊢
  rw [List.filter_append, this]
  simp

theorem take_ways {z : Int} {l : List Int} (hok : semOk z l) (id : Int) :
    (∃ e, e ≠ 0 ∧ takeR z l id = (e, false, 0, []) ∧ (id < 0 ∨ id ∈ l ∨ l.length = 256) ∧ (0 ≤ id → id ∈ l → e = 6) ∧ (0 ≤ id → id ∉ l → 0 = z)) ∨ (takeR z l id = (0, true, z - 1, []) ∧ 0 ≤ id ∧ 0 < z ∧ l = []) ∨
    (takeR z l id = (0, false, 0, l ++ [id]) ∧ 0 ≤ id ∧ id ∉ l ∧ z = 0 ∧ l.length < 256) := by
  unfold takeR
  rw [if_neg (fun q => q hok)]
  by_cases h1 : id < 0
  · rw [if_pos h1]
    exact .inl ⟨1, by decide, rfl, .inl h1, fun h => by omega, fun h => by omega⟩
  · rw [if_neg h1]
    by_cases h2 : id ∈ l
    · rw [if_pos h2]
      exact .inl ⟨6, by decide, rfl, .inr (.inl h2), fun _ _ => rfl, fun _ h => absurd h2 h⟩
    · rw [if_neg h2]
      by_cases h3 : 0 < z
      · rw [if_pos h3]
        exact .inr (.inl ⟨rfl, by omega, h3, List.eq_nil_of_length_eq_zero (by have := hok.2.2.2.1; omega)⟩)
      · rw [if_neg h3]
        have h0 : z = 0 := by have := hok.1; omega
        by_cases h4 : l.length = 256
        · rw [if_pos h4]
          exact .inl ⟨7, by decide, rfl, .inr (.inr h4), fun _ h => absurd h h2, fun _ _ => h0.symm⟩
        · rw [if_neg h4]
          exact .inr (.inr ⟨rfl, by omega, h2, h0, by have := hok.2.2.1; omega⟩)
theorem ok_take {z : Int} (h : 0 < z) {l : List Int} (hok : semOk z l) : semOk (z - 1) [] := ok_one _ (by have := hok.2.1; omega)
theorem ok_wait {l : List Int} {id : Int} (hok : semOk 0 l) (h0 : 0 ≤ id) (hm : id ∉ l) (hl : l.length < 256) : semOk 0 (l ++ [id]) := by
  rw [semOk_nodup] at hok ⊢
  obtain ⟨-, -, -, -, h5, h6⟩ := hok
  refine ⟨by decide, by decide, by simp; omega, .inl (by decide), fun x hx => ?_, ?_⟩
  · rcases List.mem_append.1 hx with hx | hx
    · exact h5 x hx
    · rw [List.mem_singleton.1 hx]; exact h0
  · rw [List.nodup_append]
    refine ⟨h6, by simp, fun a ha b hb => ?_⟩
    rw [List.mem_singleton.1 hb]
    rintro rfl
    exact hm ha
theorem ok_wo {z : Int} {l : List Int} (hok : semOk z l) (x : Int) : semOk z (wo l x) := by
  rw [semOk_nodup] at hok ⊢
  obtain ⟨h1, h2, h3, h4, h5, h6⟩ := hok
  have := wo_len l x
  exact ⟨h1, h2, by omega, by omega, fun y hy => h5 y (wo_mem.1 hy).1, wo_nodup h6 x⟩
theorem give_first {z : Int} {l : List Int} (hok : semOk z l) (hl : 0 < l.length) : giveR z l = (0, nth l 0, 0, l.drop 1) := by
  unfold giveR
  rw [if_neg (fun q => q hok), if_pos hl, wo_first (semOk_nodup.1 hok).2.2.2.2.2 hl]
theorem give_full {l : List Int} (hok : semOk 1000 l) (hl : l.length = 0) : giveR 1000 l = (4, 0, 0, []) := by
  unfold giveR
  rw [if_neg (fun q => q hok), if_neg (by omega), if_pos rfl]
theorem give_more {z : Int} {l : List Int} (hok : semOk z l) (hl : l.length = 0) (hz : z ≠ 1000) : giveR z l = (0, -1, z + 1, []) := by
  unfold giveR
  rw [if_neg (fun q => q hok), if_neg (by omega), if_neg hz]
theorem ok_more {z : Int} {l : List Int} (hok : semOk z l) (hz : z ≠ 1000) : semOk (z + 1) [] := ok_one _ (by have := hok.1; have := hok.2.1; omega)
theorem ok_drop {z : Int} {l : List Int} (hok : semOk z l) (k : Nat) : semOk z (l.drop k) := by
  rw [semOk_nodup] at hok ⊢
  obtain ⟨h1, h2, h3, h4, h5, h6⟩ := hok
  refine ⟨h1, h2, by rw [List.length_drop]; omega, by rw [List.length_drop]; omega, fun y hy => h5 y (List.mem_of_mem_drop hy), h6.sublist (List.drop_sublist k l)⟩
theorem drop_in {z : Int} {l : List Int} (hok : semOk z l) {id : Int} (hm : id ∈ l) : dropR z l id = (0, z, wo l id) := by
  unfold dropR
  rw [if_neg (fun q => q hok), if_neg (fun q => q hm)]
theorem drop_out {z : Int} {l : List Int} (hok : semOk z l) {id : Int} (hm : id ∉ l) : dropR z l id = (5, 0, []) := by
  unfold dropR
  rw [if_neg (fun q => q hok), if_pos hm]

end Go.Proofs.Ytokmogfnliccjaa

/-
  Layer 8, plain mathematics: a list in order is the same timers, in order, and the only such list; what a heap's answers are to be.
-/
import Derived.Test.YtjamoafihmcmeaaTi
namespace Go.Proofs.Ytjamoafihmcmeaa
open Go.RowKit

def leT (a b : Tm) : Prop := ¬ lessT b a
theorem leT_trans {a b c : Tm} (h : leT a b) (k : leT b c) : leT a c := by unfold leT lessT at *; omega
theorem leT_anti {a b : Tm} (h : leT a b) (k : leT b a) : a = b := by
  unfold leT lessT at *
  obtain ⟨a1, a2⟩ := a
  obtain ⟨b1, b2⟩ := b
  simp only at h k
  have h1 : a1 = b1 := by omega
  have h2 : a2 = b2 := by omega
  rw [h1, h2]
theorem leT_total (a b : Tm) : leT a b ∨ leT b a := by unfold leT lessT; omega
theorem leT_of_less {a b : Tm} (h : lessT a b) : leT a b := by unfold leT lessT at *; omega
theorem leT_refl (a : Tm) : leT a a := by unfold leT lessT; omega

theorem withF_perm (l : List Tm) (t : Tm) : (withF l t).Perm (t :: l) := by
  unfold withF
  refine List.perm_middle.trans (List.Perm.cons t ?_)
  have h := List.filter_append_perm (fun x => decide (lessT t x)) l
  exact (List.perm_append_comm).trans h
theorem fold_perm (l acc : List Tm) : (l.foldl withF acc).Perm (l ++ acc) := by
  induction l generalizing acc with
  | nil => exact List.Perm.refl _
  | cons t l ih =>
    rw [List.foldl_cons]
    exact (ih _).trans (((withF_perm acc t).append_left l).trans List.perm_middle)
theorem orderF_perm (l : List Tm) : (orderF l).Perm l := by
  have := fold_perm l []
  rwa [List.append_nil] at this
def Srt (l : List Tm) : Prop := l.Pairwise leT
theorem withF_srt {l : List Tm} (h : Srt l) (t : Tm) : Srt (withF l t) := by
  unfold withF Srt
  refine List.pairwise_append.2 ⟨List.Pairwise.filter _ h, List.pairwise_cons.2 ⟨fun x hx => ?_, List.Pairwise.filter _ h⟩, fun x hx y hy => ?_⟩
  · exact leT_of_less (of_decide_eq_true (List.mem_filter.1 hx).2)
  · have h1 : leT x t := by
      have := (List.mem_filter.1 hx).2
      simpa [leT] using this
    rcases List.mem_cons.1 hy with rfl | hy
    · exact h1
    · exact leT_trans h1 (leT_of_less (of_decide_eq_true (List.mem_filter.1 hy).2))
theorem fold_srt (l : List Tm) {acc : List Tm} (h : Srt acc) : Srt (l.foldl withF acc) := by
  induction l generalizing acc with
  | nil => exact h
  | cons t l ih => exact ih (withF_srt h t)
theorem orderF_srt (l : List Tm) : Srt (orderF l) := fold_srt l List.Pairwise.nil
theorem srt_unique {a b : List Tm} (ha : Srt a) (hb : Srt b) (h : a.Perm b) : a = b :=
  h.eq_of_pairwise (fun _ _ _ _ h1 h2 => leT_anti h1 h2) ha hb
theorem orderF_eq_iff {a b : List Tm} : orderF a = orderF b ↔ a.Perm b :=
  ⟨fun h => ((orderF_perm a).symm.trans (h ▸ List.Perm.refl _)).trans (orderF_perm b), fun h => srt_unique (orderF_srt a) (orderF_srt b) (((orderF_perm a).trans h).trans (orderF_perm b).symm)⟩
theorem sameO (a b : List Tm) : sameT (orderF a) (orderF b) = decide (a.Perm b) := by
  by_cases h : a.Perm b
  · rw [decide_eq_true h, sameT, decide_eq_true (orderF_eq_iff.2 h)]
  · rw [decide_eq_false h, sameT, decide_eq_false (fun q => h (orderF_eq_iff.1 q))]
theorem orderF_of_srt {a b : List Tm} (h : Srt b) (hp : b.Perm a) : orderF a = b := srt_unique (orderF_srt a) h ((orderF_perm a).trans hp.symm)

/-! ### Ids -/
def NoTwo (l : List Tm) : Prop := (l.map (·.2)).Nodup
theorem heapOk.few {l : List Tm} (h : heapOk l) : l.length ≤ 256 := h.1
theorem heapOk.may {l : List Tm} (h : heapOk l) {t : Tm} (ht : t ∈ l) : mayT t := by
  obtain ⟨i, hi, rfl⟩ := List.mem_iff_getElem.1 ht
  have := (h.2 i hi).1
  rwa [ith_get hi] at this
theorem heapOk.noTwo {l : List Tm} (h : heapOk l) : NoTwo l := by
  unfold NoTwo
  rw [List.nodup_iff_pairwise_ne] 
  rw [List.pairwise_iff_getElem]
  intro i j hi hj hij
  rw [List.length_map] at hi hj
  have := (h.2 j hj).2.2 i hij
  unfold jA at this
  rw [ith_get hi, ith_get hj] at this
  simpa using this
/-- Nobody comes ahead of the first one. -/
theorem heapOk.least {l : List Tm} (h : heapOk l) : ∀ i, i < l.length → leT (ith l 0) (ith l i) := by
  intro i
  induction i using Nat.strongRecOn with
  | ind i ih =>
    intro hi
    by_cases h0 : i = 0
    · subst h0; exact leT_refl _
    · exact leT_trans (ih ((i - 1) / 4) (by omega) (by omega)) ((h.2 i hi).2.1 (by omega))
theorem hasId_iff {l : List Tm} {id : Int} : hasId l id ↔ id ∈ l.map (·.2) := by
  rw [List.mem_map]
  constructor
  · rintro ⟨j, hj, e⟩
    exact ⟨l[j], List.getElem_mem hj, by rw [← e]; unfold jA; rw [ith_get hj]⟩
  · rintro ⟨t, ht, e⟩
    obtain ⟨j, hj, rfl⟩ := List.mem_iff_getElem.1 ht
    exact ⟨j, hj, by unfold jA; rw [ith_get hj]; exact e⟩
theorem hasId_perm {a b : List Tm} (h : a.Perm b) (id : Int) : hasId a id ↔ hasId b id := by
  rw [hasId_iff, hasId_iff]
  exact (h.map _).mem_iff
theorem noTwo_perm {a b : List Tm} (h : a.Perm b) : NoTwo a ↔ NoTwo b := (h.map _).nodup_iff
theorem lessId_perm {a b : List Tm} (h : a.Perm b) (id : Int) : (lessId a id).Perm (lessId b id) := h.filter _

/-! ### What the program is to answer -/
/-- A heap with a timer more. -/
def AddSpec (l : List Tm) (t : Tm) (e : Int) (a : List Tm) : Prop := e = (addR l t).1 ∧ (e ≠ 0 → a = []) ∧ (e = 0 → heapOk a ∧ a.Perm (t :: l))
def CancelSpec (l : List Tm) (id : Int) (e : Int) (a : List Tm) : Prop := e = (cancelR l id).1 ∧ (e ≠ 0 → a = []) ∧ (e = 0 → heapOk a ∧ a.Perm (lessId l id))
def ResetSpec (l : List Tm) (id at_ : Int) (e : Int) (a : List Tm) : Prop := e = (resetR l id at_).1 ∧ (e ≠ 0 → a = []) ∧ (e = 0 → heapOk a ∧ a.Perm ((at_, id) :: lessId l id))
def dueL (l : List Tm) (now : Int) : List Int := ((orderF l).filter (fun t => decide (t.1 ≤ now))).map (·.2)
def leftL (l : List Tm) (now : Int) : List Tm := l.filter (fun t => !decide (t.1 ≤ now))
def ExpireSpec (l : List Tm) (now : Int) (e : Int) (ids : List Int) (a : List Tm) : Prop := e = (expireR l now).1 ∧ (e ≠ 0 → ids = [] ∧ a = []) ∧ (e = 0 → ids = dueL l now ∧ heapOk a ∧ a.Perm (leftL l now))
theorem add_ref {l : List Tm} {t : Tm} (h : (addR l t).1 = 0) : (addR l t).2.Perm (t :: l) := by
  unfold addR at h ⊢
  by_cases h1 : heapOk l ∧ mayT t
  · rw [if_pos h1] at h ⊢
    by_cases h2 : hasId l t.2
    · rw [if_pos h2] at h; cases h
    · rw [if_neg h2] at h ⊢
      by_cases h3 : l.length = 256
      · rw [if_pos h3] at h; cases h
      · rw [if_neg h3] at h ⊢
        exact (withF_perm _ _).trans ((orderF_perm l).cons t)
  · rw [if_neg h1] at h; cases h
theorem add_refN {l : List Tm} {t : Tm} (h : (addR l t).1 ≠ 0) : (addR l t).2 = [] := by
  unfold addR at h ⊢
  split at h
  · split at h
    · rename_i h1 h2; rw [if_pos h1, if_pos h2]
    · split at h
      · rename_i h1 h2 h3; rw [if_pos h1, if_neg h2, if_pos h3]
      · exact absurd rfl h
  · rename_i h1; rw [if_neg h1]
theorem cancel_ref {l : List Tm} {id : Int} (h : (cancelR l id).1 = 0) : (cancelR l id).2.Perm (lessId l id) := by
  unfold cancelR at h ⊢
  by_cases h1 : heapOk l
  · rw [if_pos h1] at h ⊢
    by_cases h2 : hasId l id
    · rw [if_pos h2]
      exact lessId_perm (orderF_perm l) id
    · rw [if_neg h2] at h; cases h
  · rw [if_neg h1] at h; cases h
theorem cancel_refN {l : List Tm} {id : Int} (h : (cancelR l id).1 ≠ 0) : (cancelR l id).2 = [] := by
  unfold cancelR at h ⊢
  split at h
  · split at h
    · exact absurd rfl h
    · rename_i h1 h2; rw [if_pos h1, if_neg h2]
  · rename_i h1; rw [if_neg h1]
theorem reset_ref {l : List Tm} {id at_ : Int} (h : (resetR l id at_).1 = 0) : (resetR l id at_).2.Perm ((at_, id) :: lessId l id) := by
  unfold resetR at h ⊢
  by_cases h1 : heapOk l ∧ 0 ≤ at_ ∧ at_ ≤ 1125899906842624
  · rw [if_pos h1] at h ⊢
    by_cases h2 : hasId l id
    · rw [if_pos h2]
      exact (withF_perm _ _).trans ((lessId_perm (orderF_perm l) id).cons _)
    · rw [if_neg h2] at h; cases h
  · rw [if_neg h1] at h; cases h
theorem reset_refN {l : List Tm} {id at_ : Int} (h : (resetR l id at_).1 ≠ 0) : (resetR l id at_).2 = [] := by
  unfold resetR at h ⊢
  split at h
  · split at h
    · exact absurd rfl h
    · rename_i h1 h2; rw [if_pos h1, if_neg h2]
  · rename_i h1; rw [if_neg h1]
theorem expire_ref {l : List Tm} {now : Int} (h : (expireR l now).1 = 0) : (expireR l now).2.1 = dueL l now ∧ (expireR l now).2.2.Perm (leftL l now) := by
  unfold expireR at h ⊢
  by_cases h1 : heapOk l
  · rw [if_pos h1]
    exact ⟨rfl, (orderF_perm l).filter _⟩
  · rw [if_neg h1] at h; cases h
theorem expire_refN {l : List Tm} {now : Int} (h : (expireR l now).1 ≠ 0) : (expireR l now).2.1 = [] ∧ (expireR l now).2.2 = [] := by
  unfold expireR at h ⊢
  split at h
  · exact absurd rfl h
  · rename_i h1; rw [if_neg h1]; exact ⟨rfl, rfl⟩

end Go.Proofs.Ytjamoafihmcmeaa

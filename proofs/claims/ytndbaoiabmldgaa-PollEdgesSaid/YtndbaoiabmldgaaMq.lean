/-
  Layer 9, plain mathematics: what the answers are, one descriptor at a time; what they leave as it was.
-/
import Derived.Test.YtndbaoiabmldgaaPd
namespace Go.Proofs.Ytndbaoiabmldgaa
open Go.RowKit

theorem dth_set_same {l : List Ds} {k : Nat} (hk : k < l.length) (x : Ds) : dth (l.set k x) k = x := by
  rw [dth_get (by simpa using hk)]; simp
theorem dth_set_ne {l : List Ds} {k j : Nat} (h : j ≠ k) (x : Ds) : dth (l.set k x) j = dth l j := by
  simp [dth, List.getD, List.getElem?_set_ne (Ne.symm h)]
theorem dth_over {l : List Ds} {k : Nat} (h : l.length ≤ k) : dth l k = (false, false, 0) := by simp [dth, List.getD, List.getElem?_eq_none h]
theorem dth_ext {l m : List Ds} (h : l.length = m.length) (hd : ∀ j, j < l.length → dth l j = dth m j) : l = m :=
  List.ext_getElem h fun i h1 h2 => by
    have := hd i h1
    rwa [dth_get h1, dth_get h2] at this
theorem set_back {l : List Ds} {k : Nat} {x y : Ds} (h : dth l k = y) (hk : k < l.length) : (l.set k x).set k y = l := by
  rw [List.set_set]
  refine dth_ext (by simp) fun j hj => ?_
  by_cases e : j = k
  · subst e; rw [dth_set_same hk, h]
  · rw [dth_set_ne e]
theorem set_self {l : List Ds} {k : Nat} {y : Ds} (h : dth l k = y) (hk : k < l.length) : l.set k y = l := by
  refine dth_ext (by simp) fun j hj => ?_
  by_cases e : j = k
  · subst e; rw [dth_set_same hk, h]
  · rw [dth_set_ne e]

/-- No two have one who waits. -/
theorem pollOk_iff {l : List Ds} : pollOk l ↔ l.length ≤ 16 ∧ (∀ j, j < l.length → okD (dth l j)) ∧ ∀ i j, i < l.length → j < l.length → i ≠ j → 0 ≤ who l i → who l j ≠ who l i := by
  constructor
  · rintro ⟨h1, h2⟩
    refine ⟨h1, fun j hj => (h2 j hj).1, fun i j hi hj hne h0 e => ?_⟩
    rcases Nat.lt_or_gt_of_ne hne with h | h
    · exact (h2 j hj).2 i h (by rw [e]; exact h0) e.symm
    · exact (h2 i hi).2 j h h0 e
  · rintro ⟨h1, h2, h3⟩
    exact ⟨h1, fun i hi => ⟨h2 i hi, fun j hj h0 e => h3 i j hi (by omega) (by omega) h0 e⟩⟩
theorem pollOk_set {l : List Ds} (h : pollOk l) {k : Nat} (x : Ds) (hx : okD x) (hn : 0 ≤ x.2.2 → ∀ j, j < l.length → j ≠ k → who l j ≠ x.2.2) : pollOk (l.set k x) := by
  obtain ⟨h1, h2, h3⟩ := pollOk_iff.1 h
  refine pollOk_iff.2 ⟨by simpa using h1, fun j hj => ?_, fun i j hi hj hne h0 => ?_⟩
  · rw [List.length_set] at hj
    by_cases e : j = k
    · subst e; rw [dth_set_same hj]; exact hx
    · rw [dth_set_ne e]; exact h2 j hj
  · rw [List.length_set] at hi hj
    unfold who at h0 hn h3 ⊢
    by_cases e : i = k
    · subst e
      rw [dth_set_same hi] at h0 ⊢
      rw [dth_set_ne (Ne.symm hne)]
      exact hn h0 j hj (Ne.symm hne)
    · rw [dth_set_ne e] at h0 ⊢
      by_cases e2 : j = k
      · subst e2
        rw [dth_set_same hj]
        intro e3
        exact hn (by rw [e3]; exact h0) i hi e e3.symm
      · rw [dth_set_ne e2]
        exact h3 i j hi hj hne h0
theorem pollOk_low {l : List Ds} (h : pollOk l) {k : Nat} (x : Ds) (hx : okD x) (h1 : x.2.2 = -1) : pollOk (l.set k x) := pollOk_set h x hx fun h0 => by omega
theorem pollOk_id {l : List Ds} (h : pollOk l) {k : Nat} {id : Int} (h0 : 0 ≤ id) (hw : ¬ waitsD l id) : pollOk (l.set k (true, false, id)) :=
  pollOk_set h _ ⟨fun q => (by cases q), fun q => (by cases q), by show -1 ≤ id; omega⟩ fun _ j hj _ e => hw ⟨j, hj, e⟩
theorem nil_of {l : List Ds} (h : pollOk l) {k : Nat} (hk : k < l.length) (ho : (dth l k).1 = false) : dth l k = nilD := by
  obtain ⟨a, b⟩ := (h.2 k hk).1.1 ho
  exact Prod.ext ho (Prod.ext a b)
theorem who_low {l : List Ds} (h : pollOk l) {k : Nat} (hk : k < l.length) : -1 ≤ who l k := (h.2 k hk).1.2.2
theorem who_shut {l : List Ds} (h : pollOk l) {k : Nat} (hk : k < l.length) (ho : (dth l k).1 = false) : who l k = -1 := by unfold who; rw [nil_of h hk ho]
theorem who_ready {l : List Ds} (h : pollOk l) {k : Nat} (hk : k < l.length) (ho : (dth l k).2.1 = true) : who l k = -1 := (h.2 k hk).1.2.1 ho

section
variable {l : List Ds} {k : Nat} {id : Int}
theorem has_at (h : pollOk l) (hk : k < l.length) : hasD l (k : Int) := ⟨h, by omega, by omega⟩
theorem openR_at (h : pollOk l) (hk : k < l.length) : openR l (k : Int) = if (dth l k).1 = true then (6, []) else (0, l.set k quiD) := by
  unfold openR; rw [if_pos (has_at h hk), Int.toNat_natCast]
theorem shutR_at (h : pollOk l) (hk : k < l.length) : shutR l (k : Int) = if (dth l k).1 = true then (0, who l k, l.set k nilD) else (5, 0, []) := by
  unfold shutR; rw [if_pos (has_at h hk), Int.toNat_natCast]
theorem armR_at (h : pollOk l) (hk : k < l.length) (h0 : 0 ≤ id) : armR l (k : Int) id =
    if (dth l k).1 = true then (if waitsD l id then (6, false, []) else if 0 ≤ who l k then (7, false, []) else if (dth l k).2.1 = true then (0, true, l.set k quiD) else (0, false, l.set k (true, false, id))) else (5, false, []) := by
  unfold armR; rw [if_pos ⟨has_at h hk, h0⟩, Int.toNat_natCast]
theorem fireR_at (h : pollOk l) (hk : k < l.length) : fireR l (k : Int) = if (dth l k).1 = true then (if 0 ≤ who l k then (0, who l k, l.set k quiD) else (0, -1, l.set k rdyD)) else (5, 0, []) := by
  unfold fireR; rw [if_pos (has_at h hk), Int.toNat_natCast]
end
/-- One descriptor may be another one; the others are as they were. -/
structure StepD (l : List Ds) (i : Int) (p : List Ds) : Prop where
  len : p.length = l.length
  ok : pollOk p
  rest : ∀ j : Nat, (j : Int) ≠ i → dth p j = dth l j
theorem stepD_set {l : List Ds} {k : Nat} {x : Ds} (h : pollOk (l.set k x)) : StepD l (k : Int) (l.set k x) := ⟨by simp, h, fun j hj => dth_set_ne (by omega) x⟩
/-- With an error nothing is told; else it is a step. -/
def ToldD (l : List Ds) (i : Int) (e : Int) (p : List Ds) : Prop := (e ≠ 0 ∧ p = []) ∨ (e = 0 ∧ StepD l i p)
theorem okD_qui : okD quiD := by decide
theorem okD_nil : okD nilD := by decide
theorem okD_rdy : okD rdyD := by decide
theorem open_told (l : List Ds) (i : Int) : ToldD l i (openR l i).1 (openR l i).2 := by
  by_cases h : hasD l i
  · obtain ⟨k, rfl, hk⟩ := has_nat h
    rw [openR_at h.1 hk]
    split
    · exact .inl ⟨by decide, rfl⟩
    · exact .inr ⟨rfl, stepD_set (pollOk_low h.1 _ okD_qui rfl)⟩
  · unfold openR; rw [if_neg h]; exact .inl ⟨by decide, rfl⟩
theorem shut_told (l : List Ds) (i : Int) : ToldD l i (shutR l i).1 (shutR l i).2.2 := by
  by_cases h : hasD l i
  · obtain ⟨k, rfl, hk⟩ := has_nat h
    rw [shutR_at h.1 hk]
    split
    · exact .inr ⟨rfl, stepD_set (pollOk_low h.1 _ okD_nil rfl)⟩
    · exact .inl ⟨by decide, rfl⟩
  · unfold shutR; rw [if_neg h]; exact .inl ⟨by decide, rfl⟩
theorem arm_told (l : List Ds) (i id : Int) : ToldD l i (armR l i id).1 (armR l i id).2.2 := by
  by_cases h : hasD l i ∧ 0 ≤ id
  · obtain ⟨h, h0⟩ := h
    obtain ⟨k, rfl, hk⟩ := has_nat h
    rw [armR_at h.1 hk h0]
    by_cases h1 : (dth l k).1 = true
    · rw [if_pos h1]
      by_cases h2 : waitsD l id
      · rw [if_pos h2]; exact .inl ⟨by decide, rfl⟩
      · rw [if_neg h2]
        by_cases h3 : 0 ≤ who l k
        · rw [if_pos h3]; exact .inl ⟨by decide, rfl⟩
        · rw [if_neg h3]
          by_cases h4 : (dth l k).2.1 = true
          · rw [if_pos h4]; exact .inr ⟨rfl, stepD_set (pollOk_low h.1 _ okD_qui rfl)⟩
          · rw [if_neg h4]; exact .inr ⟨rfl, stepD_set (pollOk_id h.1 h0 h2)⟩
    · rw [if_neg h1]; exact .inl ⟨by decide, rfl⟩
  · unfold armR; rw [if_neg h]; exact .inl ⟨by decide, rfl⟩
theorem fire_told (l : List Ds) (i : Int) : ToldD l i (fireR l i).1 (fireR l i).2.2 := by
  by_cases h : hasD l i
  · obtain ⟨k, rfl, hk⟩ := has_nat h
    rw [fireR_at h.1 hk]
    by_cases h1 : (dth l k).1 = true
    · rw [if_pos h1]
      split
      · exact .inr ⟨rfl, stepD_set (pollOk_low h.1 _ okD_qui rfl)⟩
      · exact .inr ⟨rfl, stepD_set (pollOk_low h.1 _ okD_rdy rfl)⟩
    · rw [if_neg h1]; exact .inl ⟨by decide, rfl⟩
  · unfold fireR; rw [if_neg h]; exact .inl ⟨by decide, rfl⟩

/-- Opened, and shut. -/
theorem open_shut {l p : List Ds} {i : Int} (h : openR l i = (0, p)) : shutR p i = (0, -1, l) := by
  by_cases hh : hasD l i
  · obtain ⟨k, rfl, hk⟩ := has_nat hh
    rw [openR_at hh.1 hk] at h
    by_cases h1 : (dth l k).1 = true
    · rw [if_pos h1] at h; cases h
    · rw [if_neg h1] at h
      injection h with _ h
      subst h
      rw [shutR_at (pollOk_low hh.1 _ okD_qui rfl) (by simpa using hk)]
      unfold who
      rw [dth_set_same hk, if_pos rfl, set_back (nil_of hh.1 hk (by simpa using h1)) hk]
  · unfold openR at h; rw [if_neg hh] at h; cases h
/-- Armed, and not let go on: dropped, or fired. -/
theorem arm_back {l p : List Ds} {i id : Int} (h : armR l i id = (0, false, p)) : dropR p id = (0, l) ∧ fireR p i = (0, id, l) := by
  by_cases hh : hasD l i ∧ 0 ≤ id
  · obtain ⟨hh, h0⟩ := hh
    obtain ⟨k, rfl, hk⟩ := has_nat hh
    rw [armR_at hh.1 hk h0] at h
    by_cases h1 : (dth l k).1 = true
    · rw [if_pos h1] at h
      by_cases h2 : waitsD l id
      · rw [if_pos h2] at h; cases h
      · rw [if_neg h2] at h
        by_cases h3 : 0 ≤ who l k
        · rw [if_pos h3] at h; cases h
        · rw [if_neg h3] at h
          by_cases h4 : (dth l k).2.1 = true
          · rw [if_pos h4] at h; cases h
          · rw [if_neg h4] at h
            injection h with _ h
            injection h with _ h
            subst h
            have hq : dth l k = quiD := Prod.ext h1 (Prod.ext (by simpa using h4) (by have := who_low hh.1 hk; unfold who at this h3; show (dth l k).2.2 = -1; omega))
            have hok := pollOk_id (k := k) hh.1 h0 h2
            have hl : k < (l.set k (true, false, id)).length := by simpa using hk
            have hwk : who (l.set k (true, false, id)) k = id := by unfold who; rw [dth_set_same hk]
            have hf : firstW (l.set k (true, false, id)) id = k := firstW_at hl hwk fun j hj e => by
              unfold who at e
              rw [dth_set_ne (by omega)] at e
              exact h2 ⟨j, by omega, e⟩
            constructor
            · unfold dropR
              rw [if_pos hok, if_pos ⟨h0, ⟨k, hl, hwk⟩⟩, hf, set_back hq hk]
            · rw [fireR_at hok hl, hwk, dth_set_same hk, if_pos rfl, if_pos h0, set_back hq hk]
    · rw [if_neg h1] at h; cases h
  · unfold armR at h; rw [if_neg hh] at h; cases h
/-- Fired twice, where nobody waits. -/
theorem fire_twice {l p : List Ds} {i : Int} (h : fireR l i = (0, -1, p)) : fireR p i = (0, -1, p) := by
  by_cases hh : hasD l i
  · obtain ⟨k, rfl, hk⟩ := has_nat hh
    rw [fireR_at hh.1 hk] at h
    by_cases h1 : (dth l k).1 = true
    · rw [if_pos h1] at h
      by_cases h2 : 0 ≤ who l k
      · rw [if_pos h2] at h
        injection h with _ h
        injection h with h _
        omega
      · rw [if_neg h2] at h
        injection h with _ h
        injection h with _ h
        subst h
        rw [fireR_at (pollOk_low hh.1 _ okD_rdy rfl) (by simpa using hk)]
        unfold who
        rw [dth_set_same hk, if_pos rfl, if_neg (by decide), List.set_set]
    · rw [if_neg h1] at h; cases h
  · unfold fireR at h; rw [if_neg hh] at h; cases h

theorem waitL_cons (x : Ds) (l : List Ds) : waitL (x :: l) = if 0 ≤ x.2.2 then x.2.2 :: waitL l else waitL l := by
  unfold waitL
  rw [List.map_cons, List.filter_cons]
  simp
theorem waitL_mem {l : List Ds} {z : Int} : z ∈ waitL l ↔ 0 ≤ z ∧ waitsD l z := by
  unfold waitL waitsD
  rw [List.mem_filter, List.mem_map]
  constructor
  · rintro ⟨⟨x, hx, rfl⟩, h⟩
    obtain ⟨j, hj, rfl⟩ := List.mem_iff_getElem.1 hx
    exact ⟨by simpa using h, j, hj, by unfold who; rw [dth_get hj]⟩
  · rintro ⟨h, j, hj, e⟩
    refine ⟨⟨l[j], List.getElem_mem hj, ?_⟩, by simpa using h⟩
    unfold who at e
    rw [dth_get hj] at e
    exact e
theorem split_at {l : List Ds} {k : Nat} (hk : k < l.length) : l = l.take k ++ dth l k :: l.drop (k + 1) := by
  rw [dth_get hk]
  conv => lhs; rw [← List.take_append_drop k l, List.drop_eq_getElem_cons hk]
theorem waitL_split {l : List Ds} {k : Nat} (hk : k < l.length) : waitL l = waitL (l.take k) ++ (if 0 ≤ who l k then who l k :: waitL (l.drop (k + 1)) else waitL (l.drop (k + 1))) := by
  conv => lhs; rw [split_at hk, waitL_app, waitL_cons]
  rfl
theorem waitL_set {l : List Ds} {k : Nat} (hk : k < l.length) (x : Ds) : waitL (l.set k x) = waitL (l.take k) ++ (if 0 ≤ x.2.2 then x.2.2 :: waitL (l.drop (k + 1)) else waitL (l.drop (k + 1))) := by
  have h := waitL_split (l := l.set k x) (k := k) (by simpa using hk)
  rw [h]
  unfold who
  rw [dth_set_same hk, List.take_set_of_le (Nat.le_refl k), List.drop_set_of_lt (by omega)]
/-- The first one of those who wait, dropped. -/
theorem drop_first {l : List Ds} (h : pollOk l) {z : Int} {rest : List Int} (hw : waitL l = z :: rest) : ∃ p, dropR l z = (0, p) ∧ pollOk p ∧ waitL p = rest ∧ p.length = l.length := by
  obtain ⟨h0, j, hj, e⟩ := waitL_mem.1 (show z ∈ waitL l by rw [hw]; simp)
  have hlt : firstW l z < l.length := by
    unfold firstW
    rw [List.findIdx_lt_length]
    refine ⟨l[j], List.getElem_mem hj, ?_⟩
    unfold who at e
    rw [dth_get hj] at e
    simpa using e
  obtain ⟨k, hk⟩ : ∃ k, firstW l z = k := ⟨_, rfl⟩
  rw [hk] at hlt
  have hwk : who l k = z := by
    have := List.findIdx_getElem (xs := l) (p := fun x => decide (x.2.2 = z)) (w := by rw [show l.findIdx _ = k from hk]; exact hlt)
    unfold who
    rw [dth_get hlt]
    have e2 : l.findIdx (fun x => decide (x.2.2 = z)) = k := hk
    simp only [e2] at this
    simpa using this
  have hbe : ∀ i, i < k → who l i ≠ z := fun i hi e => by
    have := List.not_of_lt_findIdx (xs := l) (p := fun x => decide (x.2.2 = z)) (i := i) (by rw [show l.findIdx _ = k from hk]; exact hi)
    unfold who at e
    rw [dth_get (by omega)] at e
    simp [e] at this
  refine ⟨l.set k quiD, ?_, pollOk_low h _ okD_qui rfl, ?_, by simp⟩
  · unfold dropR
    rw [if_pos h, if_pos ⟨h0, j, hj, e⟩, hk]
  · have hs := waitL_split hlt
    rw [hwk, if_pos h0] at hs
    have ht : waitL (l.take k) = [] := by
      rcases hq : waitL (l.take k) with _ | ⟨y, ys⟩
      · rfl
      · exfalso
        rw [hq, hw] at hs
        simp only [List.cons_append] at hs
        injection hs with hs _
        obtain ⟨_, i, hi, ei⟩ := waitL_mem.1 (show y ∈ waitL (l.take k) by rw [hq]; simp)
        rw [List.length_take] at hi
        refine hbe i (by omega) ?_
        unfold who at ei ⊢
        rw [dth_take (by omega)] at ei
        rw [ei, hs]
    rw [ht, hw] at hs
    simp only [List.nil_append] at hs
    injection hs with _ hs
    rw [waitL_set hlt, ht, if_neg (by decide), hs]
    rfl

end Go.Proofs.Ytndbaoiabmldgaa

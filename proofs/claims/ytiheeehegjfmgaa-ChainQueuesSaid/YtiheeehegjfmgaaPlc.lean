/-
  Places of tasks as two lists (generations, and who is there): what is free, taken, found, and freed: plain mathematics, over no program.
-/
import Derived.Test.YtiheeehegjfmgaaFlag
namespace Go.Proofs.Ytiheeehegjfmgaa

/-- May they be? -/
def okS (gs : List Int) (ls : List Bool) : Prop :=
  1 ≤ gs.length ∧ gs.length ≤ 256 ∧ ls.length = gs.length ∧ ∀ i, i < gs.length → 0 ≤ nth gs i ∧ nth gs i ≤ 1099511627776 ∧ (bth ls i = true → nth gs i < 1099511627776)
open Classical in
noncomputable def errS (gs : List Int) (ls : List Bool) : Int := if okS gs ls then 0 else 1
theorem errS_ok {gs : List Int} {ls : List Bool} (h : okS gs ls) : errS gs ls = 0 := if_pos h
theorem errS_no {gs : List Int} {ls : List Bool} (h : ¬ okS gs ls) : errS gs ls = 1 := if_neg h

/-- A place is free; it is the first free one; none is. -/
def freeP (gs : List Int) (ls : List Bool) (i : Nat) : Prop := bth ls i = false ∧ nth gs i < 1099511627776
def IsFirst (gs : List Int) (ls : List Bool) (i : Nat) : Prop := i < gs.length ∧ freeP gs ls i ∧ ∀ j, j < i → ¬ freeP gs ls j
def NoFree (gs : List Int) (ls : List Bool) : Prop := ∀ j, j < gs.length → ¬ freeP gs ls j

theorem first_below (gs : List Int) (ls : List Bool) : ∀ k, k ≤ gs.length → (∃ i, i < k ∧ IsFirst gs ls i) ∨ ∀ j, j < k → ¬ freeP gs ls j := by
  intro k
  induction k with
  | zero => intro _; right; intro j hj; omega
  | succ k ih =>
    intro hk
    rcases ih (by omega) with ⟨i, hi, h⟩ | h
    · exact .inl ⟨i, by omega, h⟩
    · by_cases hf : freeP gs ls k
      · exact .inl ⟨k, by omega, by omega, hf, h⟩
      · right
        intro j hj
        by_cases e : j = k
        · exact e ▸ hf
        · exact h j (by omega)
theorem first_or (gs : List Int) (ls : List Bool) : (∃ i, IsFirst gs ls i) ∨ NoFree gs ls := by
  rcases first_below gs ls gs.length (Nat.le_refl _) with ⟨i, _, h⟩ | h
  · exact .inl ⟨i, h⟩
  · exact .inr h
theorem first_one {gs : List Int} {ls : List Bool} {i j : Nat} (h : IsFirst gs ls i) (k : IsFirst gs ls j) : i = j := by
  rcases Nat.lt_trichotomy i j with hlt | e | hlt
  · exact absurd h.2.1 (k.2.2 i hlt)
  · exact e
  · exact absurd k.2.1 (h.2.2 j hlt)
theorem first_no {gs : List Int} {ls : List Bool} {i : Nat} (h : IsFirst gs ls i) : ¬ NoFree gs ls := fun k => k i h.1 h.2.1

theorem nth_put (zs : List Int) (k j : Nat) (x : Int) (h : j < zs.length) : nth (zs.set k x) j = if k = j then x else nth zs j := by
  rw [nth_get (by simpa using h), List.getElem_set, nth_get h]

/-- The id of a place. -/
def idP (gs : List Int) (i : Nat) : Int := 256 * nth gs i + (i : Int)
theorem id_place {gs : List Int} {i : Nat} (hi : i < 256) : idP gs i % 256 = (i : Int) ∧ idP gs i / 256 = nth gs i := by
  unfold idP
  omega

/-- Taken. -/
theorem ok_take {gs : List Int} {ls : List Bool} (h : okS gs ls) {i : Nat} (hf : IsFirst gs ls i) : okS gs (ls.set i true) := by
  obtain ⟨h1, h2, h3, h4⟩ := h
  refine ⟨h1, h2, by simpa using h3, fun j hj => ?_⟩
  obtain ⟨a, b, c⟩ := h4 j hj
  refine ⟨a, b, fun hl => ?_⟩
  rw [bth_set _ _ _ _ (by omega)] at hl
  split at hl
  · rename_i e; exact e ▸ hf.2.1.2
  · exact c hl

open Classical in
/-- What Find answers: its error; its number is that of the id. -/
noncomputable def findE (gs : List Int) (ls : List Bool) (id : Int) : Int :=
  if ¬ okS gs ls ∨ id < 0 then 1
  else if (gs.length : Int) ≤ id % 256 ∨ nth gs (id % 256).toNat < id / 256 then 5
  else if id / 256 < nth gs (id % 256).toNat then 8
  else if bth ls (id % 256).toNat = false then 5
  else 0
noncomputable def findN (gs : List Int) (ls : List Bool) (id : Int) : Int := if findE gs ls id = 0 then id % 256 else 0

theorem find_ok {gs : List Int} {ls : List Bool} {id : Int} : findE gs ls id = 0 ↔ okS gs ls ∧ ∃ i : Nat, i < gs.length ∧ bth ls i = true ∧ id = idP gs i := by
  unfold findE
  constructor
  · intro h
    split at h
    · simp at h
    · rename_i h0
      split at h
      · simp at h
      · rename_i h1
        split at h
        · simp at h
        · rename_i h2
          split at h
          · simp at h
          · rename_i h3
            have hok : okS gs ls := Classical.not_not.1 (fun e => h0 (.inl e))
            refine ⟨hok, (id % 256).toNat, by omega, by simpa using h3, ?_⟩
            unfold idP
            omega
  · rintro ⟨hok, i, hi, hl, rfl⟩
    have := hok.2.1
    obtain ⟨e1, e2⟩ := id_place (gs := gs) (i := i) (by omega)
    have hg := (hok.2.2.2 i hi).1
    have e3 : (idP gs i % 256).toNat = i := by omega
    rw [e3, e2, e1, hl]
    have h0 : ¬ (¬ okS gs ls ∨ idP gs i < 0) := by
      rintro (h | h)
      · exact h hok
      · unfold idP at h; omega
    rw [if_neg h0, if_neg (by omega), if_neg (by omega), if_neg (by simp)]

/-- What is below its place's generation is stale. -/
theorem find_stale {gs : List Int} {ls : List Bool} (hok : okS gs ls) {id : Int} (h0 : 0 ≤ id) {i : Nat} (hi : i < gs.length) (e : id % 256 = (i : Int)) (hlt : id / 256 < nth gs i) : findE gs ls id = 8 := by
  unfold findE
  have e3 : (id % 256).toNat = i := by omega
  rw [e3, e]
  rw [if_neg (by rintro (h | h); exact h hok; omega), if_neg (by omega), if_pos hlt]

/-- Freed. -/
theorem ok_free {gs : List Int} {ls : List Bool} (h : okS gs ls) {i : Nat} (hl : bth ls i = true) : okS (gs.set i (nth gs i + 1)) (ls.set i false) := by
  obtain ⟨h1, h2, h3, h4⟩ := h
  refine ⟨by simpa using h1, by simpa using h2, by simpa using h3, fun j hj => ?_⟩
  have hj' : j < gs.length := by simpa using hj
  obtain ⟨a, b, c⟩ := h4 j hj'
  rw [nth_put _ _ _ _ hj', bth_set _ _ _ _ (by omega)]
  split
  · rename_i e
    subst e
    have := c hl
    exact ⟨by omega, by omega, by simp⟩
  · exact ⟨a, b, c⟩
theorem freed_stale {gs : List Int} {ls : List Bool} (h : okS gs ls) {i : Nat} (hi : i < gs.length) (hl : bth ls i = true) : findE (gs.set i (nth gs i + 1)) (ls.set i false) (idP gs i) = 8 := by
  have h256 := h.2.1
  have hg := (h.2.2.2 i hi).1
  obtain ⟨e1, e2⟩ := id_place (gs := gs) (i := i) (by omega)
  refine find_stale (ok_free h hl) (by unfold idP; omega) (i := i) (by simpa using hi) e1 ?_
  rw [e2, nth_put _ _ _ _ hi, if_pos rfl]
  omega
theorem taken_found {gs : List Int} {ls : List Bool} (h : okS gs ls) {i : Nat} (hf : IsFirst gs ls i) : findE gs (ls.set i true) (idP gs i) = 0 :=
  find_ok.2 ⟨ok_take h hf, i, hf.1, by rw [bth_set _ _ _ _ (by have := h.2.2.1; have := hf.1; omega), if_pos rfl], rfl⟩

/-- The ids of those that are there. -/
def idsS (gs : List Int) (ls : List Bool) (k : Nat) : List Int := ((List.range k).filter fun i => bth ls i).map fun i => idP gs i
theorem idsS_succ (gs : List Int) (ls : List Bool) (k : Nat) : idsS gs ls (k + 1) = idsS gs ls k ++ (if bth ls k = true then [idP gs k] else []) := by
  unfold idsS
  rw [List.range_succ, List.filter_append, List.map_append]
  congr 1
  by_cases h : bth ls k = true
  · simp [h]
  · simp [h]
theorem idsS_len (gs : List Int) (ls : List Bool) (k : Nat) : (idsS gs ls k).length ≤ k := by
  unfold idsS
  rw [List.length_map]
  exact Nat.le_trans (List.length_filter_le _ _) (by simp)

/-- How many are there. -/
def hereN (ls : List Bool) (k : Nat) : Nat := ((List.range k).filter fun i => bth ls i).length
theorem hereN_succ (ls : List Bool) (k : Nat) : hereN ls (k + 1) = hereN ls k + (if bth ls k = true then 1 else 0) := by
  unfold hereN
  rw [List.range_succ, List.filter_append, List.length_append]
  by_cases h : bth ls k = true <;> simp [h]
theorem idsS_here (gs : List Int) (ls : List Bool) (k : Nat) : (idsS gs ls k).length = hereN ls k := by simp [idsS, hereN]
theorem hereN_le (ls : List Bool) (k : Nat) : hereN ls k ≤ k := by
  unfold hereN
  exact Nat.le_trans (List.length_filter_le _ _) (by simp)
theorem hereN_set (ls : List Bool) (i : Nat) (x : Bool) (k : Nat) (hk : k ≤ ls.length) : hereN (ls.set i x) k + (if i < k ∧ bth ls i = true then 1 else 0) = hereN ls k + (if i < k ∧ x = true then 1 else 0) := by
  induction k with
  | zero => simp [hereN]
  | succ k ih =>
    have ih := ih (by omega)
    rw [hereN_succ, hereN_succ, bth_set _ _ _ _ (by omega)]
    by_cases e : i = k
    · subst e
      rw [if_neg (by omega), if_neg (by omega)] at ih
      simp only [if_true, Nat.lt_succ_self, true_and]
      omega
    · rw [if_neg e]
      have e1 : (i < k + 1 ∧ bth ls i = true) ↔ (i < k ∧ bth ls i = true) := by constructor <;> rintro ⟨a, b⟩ <;> exact ⟨by omega, b⟩
      have e2 : (i < k + 1 ∧ x = true) ↔ (i < k ∧ x = true) := by constructor <;> rintro ⟨a, b⟩ <;> exact ⟨by omega, b⟩
      simp only [e1, e2]
      omega
theorem here_take {ls : List Bool} {i n : Nat} (hl : ls.length = n) (hi : i < n) (h : bth ls i = false) : hereN (ls.set i true) n = hereN ls n + 1 := by
  have := hereN_set ls i true n (by omega)
  simpa [h, hi] using this
theorem here_free {ls : List Bool} {i n : Nat} (hl : ls.length = n) (hi : i < n) (h : bth ls i = true) : hereN (ls.set i false) n + 1 = hereN ls n := by
  have := hereN_set ls i false n (by omega)
  simpa [h, hi] using this
theorem here_all {ls : List Bool} {n : Nat} (h : ∀ i, i < n → bth ls i = true) : hereN ls n = n := by
  induction n with
  | zero => rfl
  | succ n ih => rw [hereN_succ, ih (fun i hi => h i (by omega)), if_pos (h n (by omega))]

/-! ### Whatever is taken and freed: an id that was given is there, or stale -/

/-- all: the ids that were given; given: those of them that were not freed. -/
structure Once (gs : List Int) (ls : List Bool) (all : List Int) (given : Int → Bool) : Prop where
  ok : okS gs ls
  ids : ∀ id ∈ all, 0 ≤ id ∧ ∃ i : Nat, i < gs.length ∧ id % 256 = (i : Int) ∧ ((given id = true ∧ bth ls i = true ∧ id / 256 = nth gs i) ∨ (given id = false ∧ id / 256 < nth gs i))
  here : ∀ i, i < gs.length → bth ls i = true → idP gs i ∈ all ∧ given (idP gs i) = true

/-- What is taken was never given. -/
theorem Once.new {gs : List Int} {ls : List Bool} {all : List Int} {given : Int → Bool} (h : Once gs ls all given) {i : Nat} (hf : IsFirst gs ls i) : idP gs i ∉ all := by
  intro hm
  have h256 := h.ok.2.1
  have hi := hf.1
  obtain ⟨_, k, hk, ek, h1⟩ := h.ids _ hm
  obtain ⟨e1, e2⟩ := id_place (gs := gs) (i := i) (by omega)
  obtain rfl : k = i := by omega
  rcases h1 with ⟨_, hl, _⟩ | ⟨_, hlt⟩
  · rw [hf.2.1.1] at hl; cases hl
  · omega

theorem Once.take {gs : List Int} {ls : List Bool} {all : List Int} {given given' : Int → Bool} (h : Once gs ls all given) {i : Nat} (hf : IsFirst gs ls i) (hg : ∀ id, given' id = if id = idP gs i then true else given id) :
    Once gs (ls.set i true) (all ++ [idP gs i]) given' := by
  have h256 := h.ok.2.1
  have hlen := h.ok.2.2.1
  have hi := hf.1
  have hnew := h.new hf
  obtain ⟨e1, e2⟩ := id_place (gs := gs) (i := i) (by omega)
  refine ⟨ok_take h.ok hf, fun id hid => ?_, fun j hj hl => ?_⟩
  · rcases List.mem_append.1 hid with hid | hid
    · have hne : id ≠ idP gs i := fun e => hnew (e ▸ hid)
      obtain ⟨h0, k, hk, ek, h1⟩ := h.ids id hid
      refine ⟨h0, k, hk, ek, ?_⟩
      rw [hg, if_neg hne, bth_set _ _ _ _ (by omega)]
      rcases h1 with ⟨a, b, c⟩ | h1
      · left
        refine ⟨a, ?_, c⟩
        split
        · rfl
        · exact b
      · exact .inr h1
    · obtain rfl := List.mem_singleton.1 hid
      have := (h.ok.2.2.2 i hi).1
      refine ⟨by unfold idP; omega, i, hi, e1, .inl ⟨by rw [hg, if_pos rfl], by rw [bth_set _ _ _ _ (by omega), if_pos rfl], e2⟩⟩
  · rw [bth_set _ _ _ _ (by omega)] at hl
    by_cases e : i = j
    · subst e
      exact ⟨by simp, by rw [hg, if_pos rfl]⟩
    · rw [if_neg e] at hl
      obtain ⟨m1, m2⟩ := h.here j hj hl
      exact ⟨List.mem_append_left _ m1, by rw [hg]; split <;> simp_all⟩

theorem Once.free {gs : List Int} {ls : List Bool} {all : List Int} {given given' : Int → Bool} (h : Once gs ls all given) {i : Nat} (hi : i < gs.length) (hl : bth ls i = true) (hg : ∀ id, given' id = if id = idP gs i then false else given id) :
    Once (gs.set i (nth gs i + 1)) (ls.set i false) all given' := by
  have h256 := h.ok.2.1
  have hlen := h.ok.2.2.1
  obtain ⟨e1, e2⟩ := id_place (gs := gs) (i := i) (by omega)
  refine ⟨ok_free h.ok hl, fun id hid => ?_, fun j hj hlj => ?_⟩
  · obtain ⟨h0, k, hk, ek, h1⟩ := h.ids id hid
    refine ⟨h0, k, by simpa using hk, ek, ?_⟩
    rw [nth_put _ _ _ _ hk, bth_set _ _ _ _ (by omega), hg]
    by_cases e : i = k
    · subst e
      right
      by_cases eid : id = idP gs i
      · rw [if_pos eid, if_pos rfl]
        exact ⟨rfl, by rw [eid, e2]; omega⟩
      · rw [if_neg eid, if_pos rfl]
        rcases h1 with ⟨_, _, c⟩ | ⟨a, b⟩
        · exact absurd (by unfold idP; omega) eid
        · exact ⟨a, by omega⟩
    · have hne : id ≠ idP gs i := fun eid => e (by rw [eid, e1] at ek; omega)
      rw [if_neg hne, if_neg e, if_neg e]
      exact h1
  · have hj' : j < gs.length := by simpa using hj
    rw [bth_set _ _ _ _ (by omega)] at hlj
    by_cases e : i = j
    · rw [if_pos e] at hlj; cases hlj
    · rw [if_neg e] at hlj
      obtain ⟨m1, m2⟩ := h.here j hj' hlj
      have ep : idP (gs.set i (nth gs i + 1)) j = idP gs j := by unfold idP; rw [nth_put _ _ _ _ hj', if_neg e]
      obtain ⟨f1, _⟩ := id_place (gs := gs) (i := j) (by omega)
      rw [ep]
      exact ⟨m1, by rw [hg, if_neg (fun eid => e (by rw [eid, e1] at f1; omega))]; exact m2⟩

/-- An id that was given, and freed, is stale; one that is there is found. -/
theorem Once.find {gs : List Int} {ls : List Bool} {all : List Int} {given : Int → Bool} (h : Once gs ls all given) {id : Int} (hid : id ∈ all) : findE gs ls id = if given id = true then 0 else 8 := by
  obtain ⟨h0, i, hi, e, h1⟩ := h.ids id hid
  rcases h1 with ⟨a, b, c⟩ | ⟨a, b⟩
  · rw [if_pos a]
    exact find_ok.2 ⟨h.ok, i, hi, b, by unfold idP; omega⟩
  · rw [if_neg (by rw [a]; simp)]
    exact find_stale h.ok h0 hi e b

end Go.Proofs.Ytiheeehegjfmgaa

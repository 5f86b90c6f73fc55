import Derived.Test.YtfhlligcbpnkkaaDoorMg3

/-
  The document's words of layer 4 as plain functions on lists: which instructions and programs may be, their units, their tasks; and that what a program comes to is known behind as many passes as there are programs.
-/
namespace Go.Proofs.YtfhlligcbpnkkaaDoor

/-- An instruction may be. -/
def mayB (x : I3) : Bool := decide ((x.1 = 1 ∧ 1 ≤ x.2.1 ∧ x.2.1 ≤ 100 ∧ x.2.2 = 0) ∨ (x.1 = 2 ∧ 0 ≤ x.2.1 ∧ x.2.1 ≤ 15 ∧ 0 ≤ x.2.2 ∧ x.2.2 ≤ 3) ∨ ((x.1 = 3 ∨ x.1 = 9) ∧ x.2.1 = 0 ∧ x.2.2 = 0) ∨
  (x.1 = 4 ∧ 1 ≤ x.2.1 ∧ x.2.1 ≤ 1000 ∧ x.2.2 = 0) ∨ (x.1 = 5 ∧ 0 ≤ x.2.1 ∧ x.2.1 ≤ 15 ∧ x.2.2 = 0) ∨ (x.1 = 6 ∧ 0 ≤ x.2.1 ∧ x.2.1 ≤ 3 ∧ x.2.2 = 0) ∨ ((x.1 = 7 ∨ x.1 = 8) ∧ 0 ≤ x.2.1 ∧ x.2.1 ≤ 7 ∧ x.2.2 = 0))

theorem may_bound {x : I3} (h : mayB x = true) : 1 ≤ x.1 ∧ x.1 ≤ 9 ∧ 0 ≤ x.2.1 ∧ x.2.1 ≤ 1000 ∧ 0 ≤ x.2.2 ∧ x.2.2 ≤ 3 ∧ (x.1 = 1 → 1 ≤ x.2.1 ∧ x.2.1 ≤ 100) := by
  have := of_decide_eq_true h
  omega

/-- A program may be. -/
def okP (p : List I3) : Prop := 1 ≤ p.length ∧ p.length ≤ 32 ∧ ∀ j, j < p.length → mayB (ith p j) = true
/-- Programs may be. -/
def okL (l : List (List I3)) : Prop := 1 ≤ l.length ∧ l.length ≤ 16 ∧ ∀ j, j < l.length → okP (pth l j) ∧ ∀ k, k < (pth l j).length → jO (pth l j) k = 2 → jA (pth l j) k < (l.length : Int)
open Classical in
noncomputable def errP (p : List I3) : Int := if okP p then 0 else 1
open Classical in
noncomputable def errL (l : List (List I3)) : Int := if okL l then 0 else 1
theorem errP_ok {p : List I3} (h : okP p) : errP p = 0 := if_pos h
theorem errP_no {p : List I3} (h : ¬ okP p) : errP p = 1 := if_neg h
theorem errL_ok {l : List (List I3)} (h : okL l) : errL l = 0 := if_pos h
theorem errL_no {l : List (List I3)} (h : ¬ okL l) : errL l = 1 := if_neg h

/-- Up to, and with, its first exit. -/
def runLen : List I3 → Nat
  | [] => 0
  | x :: p => if x.1 = 9 then 1 else runLen p + 1
/-- It has an exit. -/
def hasExit (p : List I3) : Prop := ∃ j, j < p.length ∧ jO p j = 9

theorem jO_succ (x : I3) (p : List I3) (j : Nat) : jO (x :: p) (j + 1) = jO p j := rfl
theorem jO_zero (x : I3) (p : List I3) : jO (x :: p) 0 = x.1 := rfl

theorem runLen_le (p : List I3) : runLen p ≤ p.length := by
  induction p with
  | nil => simp [runLen]
  | cons x p ih => simp only [runLen, List.length_cons]; split <;> omega

theorem runLen_exit {p : List I3} : ∀ {k : Nat}, k < p.length → (∀ j, j < k → jO p j ≠ 9) → jO p k = 9 → runLen p = k + 1 := by
  induction p with
  | nil => intro k h; simp at h
  | cons x p ih =>
    intro k hk h0 h1
    match k with
    | 0 => simp only [runLen]; rw [if_pos (show x.1 = 9 from h1)]
    | k + 1 =>
      simp only [runLen]
      rw [if_neg (show ¬ x.1 = 9 from h0 0 (by omega)), ih (k := k) (by simpa using hk) (fun j hj => h0 (j + 1) (by omega)) h1]

theorem runLen_none {p : List I3} (h : ∀ j, j < p.length → jO p j ≠ 9) : runLen p = p.length := by
  induction p with
  | nil => rfl
  | cons x p ih =>
    simp only [runLen]
    rw [if_neg (show ¬ x.1 = 9 from h 0 (by simp)), ih (fun j hj => h (j + 1) (by simpa using hj))]
    simp

theorem runLen_before {p : List I3} : ∀ {j : Nat}, j + 1 < runLen p → jO p j ≠ 9 := by
  induction p with
  | nil => intro j h; simp [runLen] at h
  | cons x p ih =>
    intro j h
    simp only [runLen] at h
    split at h
    · omega
    · match j with
      | 0 => assumption
      | j + 1 => exact ih (j := j) (by omega)

theorem runLen_pos {p : List I3} (h : 0 < p.length) : 0 < runLen p := by
  match p with
  | x :: p => simp only [runLen]; split <;> omega

theorem runLen_last {p : List I3} (h : hasExit p) : 0 < runLen p ∧ jO p (runLen p - 1) = 9 := by
  induction p with
  | nil => obtain ⟨j, hj, _⟩ := h; simp at hj
  | cons x p ih =>
    simp only [runLen]
    by_cases hx : x.1 = 9
    · rw [if_pos hx]; exact ⟨by omega, hx⟩
    · rw [if_neg hx]
      obtain ⟨j, hj, he⟩ := h
      match j with
      | 0 => exact absurd he hx
      | j + 1 =>
        obtain ⟨h1, h2⟩ := ih ⟨j, by simpa using hj, he⟩
        refine ⟨by omega, ?_⟩
        have e : runLen p + 1 - 1 = (runLen p - 1) + 1 := by omega
        rw [e]; exact h2

theorem runLen_app_exit {p : List I3} (q : List I3) (h : hasExit p) : runLen (p ++ q) = runLen p := by
  induction p with
  | nil => obtain ⟨j, hj, _⟩ := h; simp at hj
  | cons x p ih =>
    simp only [List.cons_append, runLen]
    by_cases hx : x.1 = 9
    · rw [if_pos hx, if_pos hx]
    · rw [if_neg hx, if_neg hx]
      obtain ⟨j, hj, he⟩ := h
      match j with
      | 0 => exact absurd he hx
      | j + 1 => rw [ih ⟨j, by simpa using hj, he⟩]

theorem runLen_app_none {p : List I3} (q : List I3) (h : ¬ hasExit p) : runLen (p ++ q) = p.length + runLen q := by
  induction p with
  | nil => simp
  | cons x p ih =>
    simp only [List.cons_append, runLen, List.length_cons]
    have hx : x.1 ≠ 9 := fun e => h ⟨0, by simp, e⟩
    rw [if_neg hx, ih (fun ⟨j, hj, he⟩ => h ⟨j + 1, by simpa using hj, he⟩)]
    omega

/-- The first k units. -/
def unitsK (p : List I3) : Nat → Int
  | 0 => 0
  | k + 1 => unitsK p k + (if jO p k = 1 then jA p k else 1)
def units (p : List I3) : Int := unitsK p (runLen p)

theorem unitsK_bound {p : List I3} (h : okP p) : ∀ {k : Nat}, k ≤ p.length → (k : Int) ≤ unitsK p k ∧ unitsK p k ≤ 100 * k := by
  intro k
  induction k with
  | zero => intro _; simp [unitsK]
  | succ k ih =>
    intro hk
    have := ih (by omega)
    have hm := may_bound (h.2.2 k (by omega))
    unfold unitsK
    split
    · rename_i h1
      have := hm.2.2.2.2.2.2 h1
      unfold jA
      omega
    · omega

theorem ith_app_left {p q : List I3} {j : Nat} (h : j < p.length) : ith (p ++ q) j = ith p j := by
  rw [ith_get (by simp; omega), ith_get h, List.getElem_append_left]
theorem ith_app_right {p q : List I3} (j : Nat) : ith (p ++ q) (p.length + j) = ith q j := by
  unfold ith List.getD
  rw [List.getElem?_append_right (by omega), Nat.add_sub_cancel_left]

theorem unitsK_app_left {p : List I3} (q : List I3) : ∀ {k : Nat}, k ≤ p.length → unitsK (p ++ q) k = unitsK p k := by
  intro k
  induction k with
  | zero => intro _; rfl
  | succ k ih =>
    intro hk
    unfold unitsK jO jA
    rw [ih (by omega), ith_app_left (by omega)]

theorem unitsK_app_right (p q : List I3) (k : Nat) : unitsK (p ++ q) (p.length + k) = unitsK p p.length + unitsK q k := by
  induction k with
  | zero => simp [unitsK, unitsK_app_left]
  | succ k ih =>
    rw [← Nat.add_assoc]
    conv => lhs; unfold unitsK
    conv => rhs; rhs; unfold unitsK
    unfold jO jA
    rw [ih, ith_app_right]
    omega

theorem units_app_exit {p : List I3} (q : List I3) (h : hasExit p) : units (p ++ q) = units p := by
  unfold units
  rw [runLen_app_exit q h, unitsK_app_left q (runLen_le p)]

theorem not_exit {p : List I3} (h : ¬ hasExit p) : ∀ j, j < p.length → jO p j ≠ 9 := fun j hj e => h ⟨j, hj, e⟩

theorem units_app_none {p : List I3} (q : List I3) (h : ¬ hasExit p) : units (p ++ q) = units p + units q := by
  unfold units
  rw [runLen_app_none q h, unitsK_app_right, runLen_none (not_exit h)]

theorem okP_left {p q : List I3} (h : okP (p ++ q)) (hp : 0 < p.length) : okP p := by
  have h2 := h.2.1
  rw [List.length_append] at h2
  refine ⟨hp, by omega, fun j hj => ?_⟩
  have := h.2.2 j (by rw [List.length_append]; omega)
  rwa [ith_app_left hj] at this

theorem okP_app {p q : List I3} (hp : okP p) (hq : okP q) (h : p.length + q.length ≤ 32) : okP (p ++ q) := by
  refine ⟨by have := hp.1; simp; omega, by simpa using h, fun j hj => ?_⟩
  rcases Nat.lt_or_ge j p.length with h1 | h1
  · rw [ith_app_left h1]; exact hp.2.2 j h1
  · obtain ⟨i, rfl⟩ : ∃ i, j = p.length + i := ⟨j - p.length, by omega⟩
    rw [ith_app_right]
    exact hq.2.2 i (by rw [List.length_append] at hj; omega)

/-- What the first k instructions come to, where each that spawns comes to what g tells. -/
def kidsK (g : Nat → Option Nat) (p : List I3) : Nat → Option Nat
  | 0 => some 1
  | k + 1 =>
    match kidsK g p k with
    | none => none
    | some s => if jO p k = 2 then (match g (jA p k).toNat with | none => none | some m => some (s + m)) else some s

/-- What program i comes to, if that is known behind f passes. -/
def cnt (l : List (List I3)) : Nat → Nat → Option Nat
  | 0, _ => none
  | f + 1, i => kidsK (cnt l f) (pth l i) (runLen (pth l i))

section
variable {g g' : Nat → Option Nat} {p : List I3} {k s : Nat}
theorem kids_other (h : kidsK g p k = some s) (ho : jO p k ≠ 2) : kidsK g p (k + 1) = some s := by simp [kidsK, h, ho]
theorem kids_spawn {m : Nat} (h : kidsK g p k = some s) (ho : jO p k = 2) (hm : g (jA p k).toNat = some m) : kidsK g p (k + 1) = some (s + m) := by simp [kidsK, h, ho, hm]
theorem kids_bad (h : kidsK g p k = some s) (ho : jO p k = 2) (hm : g (jA p k).toNat = none) : kidsK g p (k + 1) = none := by simp [kidsK, h, ho, hm]
theorem kids_stays (h : kidsK g p k = none) (d : Nat) : kidsK g p (k + d) = none := by
  induction d with
  | zero => exact h
  | succ d ih => rw [← Nat.add_assoc]; simp [kidsK, ih]
theorem kids_none_le (h : kidsK g p k = none) {n : Nat} (hn : k ≤ n) : kidsK g p n = none := by
  obtain ⟨d, rfl⟩ : ∃ d, n = k + d := ⟨n - k, by omega⟩
  exact kids_stays h d

theorem kids_mono (hg : ∀ i c, g i = some c → g' i = some c) : ∀ {k s : Nat}, kidsK g p k = some s → kidsK g' p k = some s := by
  intro k
  induction k with
  | zero => intro s h; exact h
  | succ k ih =>
    intro s h
    rw [kidsK] at h
    split at h
    · cases h
    · rename_i s0 h0
      split at h
      · rename_i h2
        split at h
        · cases h
        · rename_i m hm
          injection h with h
          subst h
          exact kids_spawn (ih h0) h2 (hg _ _ hm)
      · rename_i h2
        injection h with h
        subst h
        exact kids_other (ih h0) h2

theorem kids_pos : ∀ {k s : Nat}, kidsK g p k = some s → 1 ≤ s := by
  intro k
  induction k with
  | zero => intro s h; injection h with h; omega
  | succ k ih =>
    intro s h
    rw [kidsK] at h
    split at h
    · cases h
    · rename_i s0 h0
      have := ih h0
      split at h
      · split at h
        · cases h
        · injection h with h; omega
      · injection h with h; omega

/-- Where all is known, each that is spawned is, and comes to less. -/
theorem kids_each : ∀ {k s : Nat}, kidsK g p k = some s → ∀ j, j < k → jO p j = 2 → ∃ m, g (jA p j).toNat = some m ∧ m < s := by
  intro k
  induction k with
  | zero => intro s _ j hj; omega
  | succ k ih =>
    intro s h j hj ho
    rw [kidsK] at h
    split at h
    · cases h
    · rename_i s0 h0
      have hp := kids_pos h0
      split at h
      · rename_i h2
        split at h
        · cases h
        · rename_i m hm
          injection h with h
          rcases Nat.lt_or_ge j k with hjk | hjk
          · obtain ⟨m', h1, h3⟩ := ih h0 j hjk ho
            exact ⟨m', h1, by omega⟩
          · obtain rfl : j = k := by omega
            exact ⟨m, hm, by omega⟩
      · rename_i h2
        injection h with h
        subst h
        rcases Nat.lt_or_ge j k with hjk | hjk
        · exact ih h0 j hjk ho
        · obtain rfl : j = k := by omega
          exact absurd ho h2

/-- Where not all is known, one that is spawned is not. -/
theorem kids_some (h : ∀ j, j < k → jO p j = 2 → ∃ m, g (jA p j).toNat = some m) : ∃ s, kidsK g p k = some s := by
  induction k with
  | zero => exact ⟨1, rfl⟩
  | succ k ih =>
    obtain ⟨s, hs⟩ := ih (fun j hj => h j (by omega))
    by_cases h2 : jO p k = 2
    · obtain ⟨m, hm⟩ := h k (by omega) h2
      exact ⟨_, kids_spawn hs h2 hm⟩
    · exact ⟨_, kids_other hs h2⟩
end

section
variable {l : List (List I3)}
theorem cnt_step : ∀ {f i c : Nat}, cnt l f i = some c → cnt l (f + 1) i = some c := by
  intro f
  induction f with
  | zero => intro i c h; cases h
  | succ f ih =>
    intro i c h
    exact kids_mono (fun j d hd => ih hd) h
theorem cnt_mono {f i c : Nat} (h : cnt l f i = some c) {n : Nat} (hn : f ≤ n) : cnt l n i = some c := by
  obtain ⟨d, rfl⟩ : ∃ d, n = f + d := ⟨n - f, by omega⟩
  clear hn
  induction d with
  | zero => exact h
  | succ d ih => exact cnt_step ih
theorem cnt_same {f f' i c c' : Nat} (h : cnt l f i = some c) (h' : cnt l f' i = some c') : c = c' := by
  have a := cnt_mono h (Nat.le_max_left f f')
  have b := cnt_mono h' (Nat.le_max_right f f')
  rw [a] at b
  injection b
theorem cnt_pos {f i c : Nat} (h : cnt l f i = some c) : 1 ≤ c := by
  match f, h with
  | f + 1, h => exact kids_pos h

/-- Each that is spawned is one of the programs. -/
def Closed (l : List (List I3)) : Prop := ∀ i, i < l.length → ∀ k, k < runLen (pth l i) → jO (pth l i) k = 2 → (jA (pth l i) k).toNat < l.length

theorem count_more (xs : List Nat) (p q : Nat → Bool) (h : ∀ x, p x = true → q x = true) :
    (xs.filter p).length ≤ (xs.filter q).length ∧ ((∃ x ∈ xs, q x = true ∧ p x = false) → (xs.filter p).length + 1 ≤ (xs.filter q).length) := by
  induction xs with
  | nil => exact ⟨by simp, fun ⟨x, hx, _⟩ => by simp at hx⟩
  | cons a xs ih =>
    obtain ⟨i1, i2⟩ := ih
    by_cases ha : p a = true
    · rw [List.filter_cons_of_pos ha, List.filter_cons_of_pos (h a ha)]
      refine ⟨by simpa using i1, fun ⟨x, hx, hq, hp⟩ => ?_⟩
      rcases List.mem_cons.1 hx with rfl | hx
      · rw [ha] at hp; cases hp
      · have := i2 ⟨x, hx, hq, hp⟩
        simpa using this
    · rw [List.filter_cons_of_neg ha]
      by_cases hb : q a = true
      · rw [List.filter_cons_of_pos hb]
        exact ⟨by simp; omega, fun _ => by simp; omega⟩
      · rw [List.filter_cons_of_neg hb]
        refine ⟨i1, fun ⟨x, hx, hq, hp⟩ => ?_⟩
        rcases List.mem_cons.1 hx with rfl | hx
        · exact absurd hq hb
        · exact i2 ⟨x, hx, hq, hp⟩

/-- Nothing more is known behind one pass more. -/
def Still (l : List (List I3)) (f : Nat) : Prop := ∀ i, i < l.length → ∀ c, cnt l (f + 1) i = some c → ∃ d, cnt l f i = some d

theorem still_next (hc : Closed l) {f : Nat} (h : Still l f) : Still l (f + 1) := by
  intro i hi c hcn
  refine kids_some (g := cnt l f) fun j hj ho => ?_
  obtain ⟨m, hm, _⟩ := kids_each (show kidsK (cnt l (f + 1)) (pth l i) (runLen (pth l i)) = some c from hcn) j hj ho
  exact h _ (hc i hi j hj ho) m hm

theorem still_or (hc : Closed l) (f : Nat) : f ≤ ((List.range l.length).filter fun i => (cnt l f i).isSome).length ∨ Still l f := by
  induction f with
  | zero => exact .inl (Nat.zero_le _)
  | succ f ih =>
    by_cases hs : Still l f
    · exact .inr (still_next hc hs)
    · rcases ih with ih | ih
      · left
        refine Nat.le_trans (Nat.succ_le_succ ih) ((count_more _ _ _ ?_).2 ?_)
        · intro x hx
          obtain ⟨c, hcx⟩ := Option.isSome_iff_exists.1 hx
          rw [cnt_step hcx]; rfl
        · unfold Still at hs
          obtain ⟨i, hs⟩ := Classical.not_forall.1 hs
          obtain ⟨hi, hs⟩ := Classical.not_imp.1 hs
          obtain ⟨c, hs⟩ := Classical.not_forall.1 hs
          obtain ⟨hcn, hs⟩ := Classical.not_imp.1 hs
          refine ⟨i, List.mem_range.2 hi, by rw [hcn]; rfl, ?_⟩
          cases hx : cnt l f i with
          | none => rfl
          | some d => exact absurd ⟨d, hx⟩ hs
      · exact absurd ih hs

theorem still_all (hc : Closed l) : Still l l.length := by
  rcases still_or hc l.length with h | h
  · intro i hi c _
    cases hx : cnt l l.length i with
    | some d => exact ⟨d, rfl⟩
    | none =>
      exfalso
      have h1 := (count_more (List.range l.length) (fun i => (cnt l l.length i).isSome) (fun _ => true) (fun _ _ => rfl)).2 ⟨i, List.mem_range.2 hi, rfl, by rw [hx]; rfl⟩
      rw [List.filter_eq_self.2 (fun _ _ => rfl), List.length_range] at h1
      omega
  · exact h

/-- What is known at all is known behind as many passes as there are programs. -/
theorem cnt_fin (hc : Closed l) {f i c : Nat} (hi : i < l.length) (h : cnt l f i = some c) : cnt l l.length i = some c := by
  have key : ∀ d i, i < l.length → ∀ c, cnt l (l.length + d) i = some c → ∃ e, cnt l l.length i = some e := by
    intro d
    have hs : Still l (l.length + d) := by
      clear h
      induction d with
      | zero => exact still_all hc
      | succ d ih => exact still_next hc ih
    clear hs
    induction d with
    | zero => intro i _ c h; exact ⟨c, h⟩
    | succ d ih =>
      intro i hi c h
      have hs : Still l (l.length + d) := by
        clear ih h
        induction d with
        | zero => exact still_all hc
        | succ d ih => exact still_next hc ih
      obtain ⟨e, he⟩ := hs i hi c h
      exact ih i hi e he
  have h' := cnt_mono h (Nat.le_add_left f l.length)
  obtain ⟨e, he⟩ := key f i hi c h'
  rw [he, cnt_same he h]

theorem okL_closed (h : okL l) : Closed l := by
  intro i hi k hk ho
  have h1 := (h.2.2 i hi).1.2.2 k (Nat.lt_of_lt_of_le hk (runLen_le _))
  have h2 := (h.2.2 i hi).2 k (Nat.lt_of_lt_of_le hk (runLen_le _)) ho
  have := may_bound h1
  unfold jA at h2 ⊢
  omega

/-- What program i comes to, if it does not come to itself. -/
def tot (l : List (List I3)) (i : Nat) : Option Nat := cnt l l.length i

open Classical in
/-- What Tasks answers: a number, an error. -/
noncomputable def tasksA (l : List (List I3)) (i : Int) : Int × Int :=
  if okL l then
    (if 0 ≤ i ∧ i < l.length then
      (match tot l i.toNat with
      | none => (0, 9)
      | some c => if 1099511627776 < c then (0, 4) else ((c : Int), 0))
    else (0, 1))
  else (0, 1)

theorem tasksA_no {i : Int} (h : ¬ okL l) : tasksA l i = (0, 1) := if_neg h
theorem tasksA_out {i : Int} (h : ¬ (0 ≤ i ∧ i < l.length)) : tasksA l i = (0, 1) := by
  unfold tasksA
  rw [if_neg h]; split <;> rfl
theorem tasksA_none {i : Nat} (h : okL l) (hi : i < l.length) (ht : tot l i = none) : tasksA l i = (0, 9) := by
  unfold tasksA
  rw [if_pos h, if_pos (by omega), Int.toNat_natCast, ht]
theorem tasksA_large {i c : Nat} (h : okL l) (hi : i < l.length) (ht : tot l i = some c) (hc : 1099511627776 < c) : tasksA l i = (0, 4) := by
  unfold tasksA
  rw [if_pos h, if_pos (by omega), Int.toNat_natCast, ht]
  exact if_pos hc
theorem tasksA_ok {i c : Nat} (h : okL l) (hi : i < l.length) (ht : tot l i = some c) (hc : c ≤ 1099511627776) : tasksA l i = ((c : Int), 0) := by
  unfold tasksA
  rw [if_pos h, if_pos (by omega), Int.toNat_natCast, ht]
  exact if_neg (by omega)
end

/-- Are two programs the same, are programs? -/
def sameP (p q : List I3) : Bool := decide (p = q)
def sameL (l o : List (List I3)) : Bool := decide (l = o)

/-- Programs are few enough. -/
def fewB (l : List (List I3)) : Bool := decide (l.length ≤ 100 ∧ ∀ j, j < l.length → (pth l j).length ≤ 100)

end Go.Proofs.YtfhlligcbpnkkaaDoor

/-
  Layer 13: what a unit, a slice, what is left, and the next instruction come to, as plain words over a task's numbers and a program's list.
-/
namespace Go.Proofs.YtfhlligcbpnkkaaDoor
open Go.RowKit

def okF (t : Tk) (p : List I3) : Prop := okT t ∧ okP p ∧ t.pc ≤ p.length ∧ (t.un = 0 ∨ (t.pc < p.length ∧ jO p t.pc.toNat = 1 ∧ t.un < jA p t.pc.toNat))
open Classical in
/-- A task fits a program. -/
noncomputable def okFB (t : Tk) (p : List I3) : Bool := decide (okF t p)
open Classical in
theorem okFB_iff {t : Tk} {p : List I3} : okFB t p = true ↔ okF t p := by unfold okFB; exact decide_eq_true_iff
theorem okFB_yes {t : Tk} {p : List I3} (h : okF t p) : okFB t p = true := okFB_iff.2 h
theorem okFB_no {t : Tk} {p : List I3} (h : ¬ okF t p) : okFB t p = false := by
  cases e : okFB t p with
  | false => rfl
  | true => exact absurd (okFB_iff.1 e) h

/-- The instruction at a place; behind the last one an exit. -/
def atN (p : List I3) (k : Nat) : I3 := if k = p.length then (9, 0, 0) else ith p k
def atI (p : List I3) (pc : Int) : I3 := atN p pc.toNat
def vI (x : I3) : Value := .agg #[.int .i64 x.1, .int .i64 x.2.1, .int .i64 x.2.2]
def zI : I3 := (0, 0, 0)
theorem atN_end {p : List I3} {k : Nat} (h : k = p.length) : atN p k = (9, 0, 0) := if_pos h
theorem atN_in {p : List I3} {k : Nat} (h : k < p.length) : atN p k = (jO p k, jA p k, jB p k) := if_neg (by omega)
theorem okF.num {t : Tk} {p : List I3} (h : okF t p) : ∃ k : Nat, t.pc = k ∧ k ≤ p.length ∧ p.length ≤ 32 ∧ 0 ≤ t.un ∧ t.un < 100 ∧ 0 ≤ t.rn ∧ t.rn ≤ 1099511627776 ∧ (t.un = 0 ∨ ((atN p k).1 = 1 ∧ t.un < (atN p k).2.1)) := by
  obtain ⟨⟨⟨_, _, _, h1, h2, h3, _⟩, _⟩, hp, h5, h6⟩ := h
  refine ⟨t.pc.toNat, by omega, by omega, hp.2.1, h2.1, h2.2, h3.1, h3.2, ?_⟩
  rcases h6 with h6 | ⟨h6, h7, h8⟩
  · exact .inl h6
  · rw [atN_in (by omega)]; exact .inr ⟨h7, h8⟩
/-- Whatever stands at a place of a program that may be, may be. -/
theorem atN_may {p : List I3} (h : okP p) {k : Nat} (hk : k ≤ p.length) : mayB (atN p k) = true := by
  by_cases e : k = p.length
  · rw [atN_end e]; decide
  · rw [show atN p k = ith p k from if_neg e]; exact h.2.2 k (by omega)

noncomputable def nextR (t : Tk) (p : List I3) : I3 × Int := if okFB t p = true then (atI p t.pc, 0) else (zI, 1)
theorem nextR_no {t : Tk} {p : List I3} (h : ¬ okF t p) : nextR t p = (zI, 1) := by unfold nextR; rw [okFB_no h]; rfl
theorem nextR_yes {t : Tk} {p : List I3} (h : okF t p) : nextR t p = (atI p t.pc, 0) := by unfold nextR; rw [okFB_yes h]; rfl

/-- The task behind so many units of work. -/
def goW (t : Tk) (a : Int) : Tk := if t.un + 1 = a then { t with un := 0, pc := t.pc + 1 } else { t with un := t.un + 1 }
/-- The task behind a unit of an instruction, in a program of n. -/
def goT (t : Tk) (x : I3) (n : Nat) : Tk := if x.1 = 1 then goW { t with rn := t.rn + 1 } x.2.1 else { t with pc := if t.pc < n then t.pc + 1 else t.pc, rn := t.rn + 1 }
def efI (x : I3) : I3 := if x.1 = 1 then zI else x
/-- A unit of a task that fits. -/
def unitR (t : Tk) (p : List I3) : Tk × I3 × Int :=
  if t.st ≠ 2 then (zT, zI, 9) else if t.rn = 1099511627776 then (zT, zI, 4) else (goT t (atI p t.pc) p.length, efI (atI p t.pc), 0)
theorem unitR_1 {t : Tk} {p : List I3} (h : t.st ≠ 2) : unitR t p = (zT, zI, 9) := if_pos h
theorem unitR_2 {t : Tk} {p : List I3} (h : t.st = 2) (k : t.rn = 1099511627776) : unitR t p = (zT, zI, 4) := by unfold unitR; rw [if_neg (fun q => q h), if_pos k]
theorem unitR_3 {t : Tk} {p : List I3} (h : t.st = 2) (k : t.rn ≠ 1099511627776) (m : (atI p t.pc).1 = 1) : unitR t p = (goW { t with rn := t.rn + 1 } (atI p t.pc).2.1, zI, 0) := by
  unfold unitR goT efI; rw [if_neg (fun q => q h), if_neg k, if_pos m, if_pos m]
theorem unitR_4 {t : Tk} {p : List I3} (h : t.st = 2) (k : t.rn ≠ 1099511627776) (m : (atI p t.pc).1 ≠ 1) (hp : t.pc < p.length) : unitR t p = ({ t with pc := t.pc + 1, rn := t.rn + 1 }, atI p t.pc, 0) := by
  unfold unitR goT efI; rw [if_neg (fun q => q h), if_neg k, if_neg m, if_neg m, if_pos hp]
theorem unitR_5 {t : Tk} {p : List I3} (h : t.st = 2) (k : t.rn ≠ 1099511627776) (m : (atI p t.pc).1 ≠ 1) (hp : ¬ t.pc < p.length) : unitR t p = ({ t with rn := t.rn + 1 }, atI p t.pc, 0) := by
  unfold unitR goT efI; rw [if_neg (fun q => q h), if_neg k, if_neg m, if_neg m, if_neg hp]
noncomputable def doR (t : Tk) (p : List I3) : Tk × I3 × Int := if okFB t p = true then unitR t p else (zT, zI, 1)
theorem doR_no {t : Tk} {p : List I3} (h : ¬ okF t p) : doR t p = (zT, zI, 1) := by unfold doR; rw [okFB_no h]; rfl
theorem doR_yes {t : Tk} {p : List I3} (h : okF t p) : doR t p = unitR t p := by unfold doR; rw [okFB_yes h]; rfl

/-- Units one behind the other, at most k of them (n are done): the task, what it asks for, how many, an error. -/
def runR (p : List I3) : Nat → Nat → Tk → Tk × I3 × Int × Int
  | 0, n, t => (t, zI, n, 0)
  | k + 1, n, t =>
    if (unitR t p).2.2 ≠ 0 then (zT, zI, 0, (unitR t p).2.2)
    else if (unitR t p).2.1.1 ≠ 0 then ((unitR t p).1, (unitR t p).2.1, ((n + 1 : Nat) : Int), 0)
    else runR p k (n + 1) (unitR t p).1
noncomputable def sliceR (t : Tk) (p : List I3) (b : Int) : Tk × I3 × Int × Int :=
  if okFB t p = true ∧ 1 ≤ b ∧ b ≤ 100 then runR p b.toNat 0 t else (zT, zI, 0, 1)

open Classical in
/-- There is an exit ahead of a place. -/
noncomputable def outB (p : List I3) (k : Nat) : Bool := decide (∃ j, j < k ∧ jO p j = 9)
noncomputable def leftR (t : Tk) (p : List I3) : Int × Int :=
  if okFB t p = true then (if outB p t.pc.toNat = true then (0, 0) else (units (p.drop t.pc.toNat) - t.un, 0)) else (0, 1)

end Go.Proofs.YtfhlligcbpnkkaaDoor

/-
  Layer 12: the document's Check.
-/
namespace Go.Proofs.YtfhlligcbpnkkaaDoor
open Go.RowKit

set_option maxHeartbeats 4000000 in
theorem rchk_any (t : Tk) (w : World) : Calls Tryd.prog 46 #[.agg (tc t)] w (RetB (.int .i64 (chkE t)) w) := by
  obtain ⟨id, tn, pg, pc, un, k0, k1, k2, k3, st, rn⟩ := t
  unfold tc
  dsimp only
  obtain ⟨V, hV⟩ : ∃ V, w.alloc (.cells #[.int .i64 id, .int .i64 tn, .int .i64 pg, .int .i64 pc, .int .i64 un, .int .i64 k0, .int .i64 k1, .int .i64 k2, .int .i64 k3, .int .i64 st, .int .i64 rn] 44) = V := ⟨_, rfl⟩
  have kb := Bk.new w 44 #[.int .i64 id, .int .i64 tn, .int .i64 pg, .int .i64 pc, .int .i64 un, .int .i64 k0, .int .i64 k1, .int .i64 k2, .int .i64 k3, .int .i64 st, .int .i64 rn]
  have bb := (Below.refl w.heap.size w).alloc (Nat.le_refl _) (.cells #[.int .i64 id, .int .i64 tn, .int .i64 pg, .int .i64 pc, .int .i64 un, .int .i64 k0, .int .i64 k1, .int .i64 k2, .int .i64 k3, .int .i64 st, .int .i64 rn] 44)
  rw [hV] at kb bb
  have HV := Lib.hid hV
  have BB := Lib.hid bb
  have KB := Lib.hid kb
  obtain ⟨q0, q1, q2, q3, q4, q5, q6, q7, q8, q9, q10⟩ := kb.c11
  have lq := kb.lt
  clear hV kb bb
  by_cases f0 : id < 0
  · rw [chk_head (t := ⟨id, tn, pg, pc, un, k0, k1, k2, k3, st, rn⟩) (fun q => by have := q.1; dsimp only at this; omega)]
    go_enter Tryd.func46, Tryd.ntmps46
    go_upto_region 1 with fail
    rw [HV.out]
    clear HV
    go_wp2
    go_ret
    exact ⟨rfl, BB.out⟩
  · by_cases f1 : tn < 0
    · rw [chk_head (t := ⟨id, tn, pg, pc, un, k0, k1, k2, k3, st, rn⟩) (fun q => by have := q.2.1.1; dsimp only at this; omega)]
      replace f0 := decide_eq_false f0
      go_enter Tryd.func46, Tryd.ntmps46
      go_upto_region 1 with fail
      rw [HV.out]
      clear HV
      go_wp2
      go_ret
      exact ⟨rfl, BB.out⟩
    · by_cases f2 : 15 < tn
      · rw [chk_head (t := ⟨id, tn, pg, pc, un, k0, k1, k2, k3, st, rn⟩) (fun q => by have := q.2.1.2; dsimp only at this; omega)]
        replace f0 := decide_eq_false f0
        replace f1 := decide_eq_false f1
        go_enter Tryd.func46, Tryd.ntmps46
        go_upto_region 1 with fail
        rw [HV.out]
        clear HV
        go_wp2
        go_ret
        exact ⟨rfl, BB.out⟩
      · by_cases f3 : pg < 0
        · rw [chk_head (t := ⟨id, tn, pg, pc, un, k0, k1, k2, k3, st, rn⟩) (fun q => by have := q.2.2.1.1; dsimp only at this; omega)]
          replace f0 := decide_eq_false f0
          replace f1 := decide_eq_false f1
          replace f2 := decide_eq_false f2
          go_enter Tryd.func46, Tryd.ntmps46
          go_upto_region 1 with fail
          rw [HV.out]
          clear HV
          go_wp2
          go_ret
          exact ⟨rfl, BB.out⟩
        · by_cases f4 : 15 < pg
          · rw [chk_head (t := ⟨id, tn, pg, pc, un, k0, k1, k2, k3, st, rn⟩) (fun q => by have := q.2.2.1.2; dsimp only at this; omega)]
            replace f0 := decide_eq_false f0
            replace f1 := decide_eq_false f1
            replace f2 := decide_eq_false f2
            replace f3 := decide_eq_false f3
            go_enter Tryd.func46, Tryd.ntmps46
            go_upto_region 1 with fail
            rw [HV.out]
            clear HV
            go_wp2
            go_ret
            exact ⟨rfl, BB.out⟩
          · by_cases f5 : pc < 0
            · rw [chk_head (t := ⟨id, tn, pg, pc, un, k0, k1, k2, k3, st, rn⟩) (fun q => by have := q.2.2.2.1.1; dsimp only at this; omega)]
              replace f0 := decide_eq_false f0
              replace f1 := decide_eq_false f1
              replace f2 := decide_eq_false f2
              replace f3 := decide_eq_false f3
              replace f4 := decide_eq_false f4
              go_enter Tryd.func46, Tryd.ntmps46
              go_upto_region 1 with fail
              rw [HV.out]
              clear HV
              go_wp2
              go_ret
              exact ⟨rfl, BB.out⟩
            · by_cases f6 : 32 < pc
              · rw [chk_head (t := ⟨id, tn, pg, pc, un, k0, k1, k2, k3, st, rn⟩) (fun q => by have := q.2.2.2.1.2; dsimp only at this; omega)]
                replace f0 := decide_eq_false f0
                replace f1 := decide_eq_false f1
                replace f2 := decide_eq_false f2
                replace f3 := decide_eq_false f3
                replace f4 := decide_eq_false f4
                replace f5 := decide_eq_false f5
                go_enter Tryd.func46, Tryd.ntmps46
                go_upto_region 1 with fail
                rw [HV.out]
                clear HV
                go_wp2
                go_ret
                exact ⟨rfl, BB.out⟩
              · by_cases f7 : un < 0
                · rw [chk_head (t := ⟨id, tn, pg, pc, un, k0, k1, k2, k3, st, rn⟩) (fun q => by have := q.2.2.2.2.1.1; dsimp only at this; omega)]
                  replace f0 := decide_eq_false f0
                  replace f1 := decide_eq_false f1
                  replace f2 := decide_eq_false f2
                  replace f3 := decide_eq_false f3
                  replace f4 := decide_eq_false f4
                  replace f5 := decide_eq_false f5
                  replace f6 := decide_eq_false f6
                  go_enter Tryd.func46, Tryd.ntmps46
                  go_upto_region 1 with fail
                  rw [HV.out]
                  clear HV
                  go_wp2
                  go_ret
                  exact ⟨rfl, BB.out⟩
                · by_cases f8 : 99 < un
                  · rw [chk_head (t := ⟨id, tn, pg, pc, un, k0, k1, k2, k3, st, rn⟩) (fun q => by have := q.2.2.2.2.1.2; dsimp only at this; omega)]
                    replace f0 := decide_eq_false f0
                    replace f1 := decide_eq_false f1
                    replace f2 := decide_eq_false f2
                    replace f3 := decide_eq_false f3
                    replace f4 := decide_eq_false f4
                    replace f5 := decide_eq_false f5
                    replace f6 := decide_eq_false f6
                    replace f7 := decide_eq_false f7
                    go_enter Tryd.func46, Tryd.ntmps46
                    go_upto_region 1 with fail
                    rw [HV.out]
                    clear HV
                    go_wp2
                    go_ret
                    exact ⟨rfl, BB.out⟩
                  · by_cases f9 : ¬ stB st = true
                    · rw [chk_head (t := ⟨id, tn, pg, pc, un, k0, k1, k2, k3, st, rn⟩) (fun q => f9 q.2.2.2.2.2.2)]
                      replace f0 := decide_eq_false f0
                      replace f1 := decide_eq_false f1
                      replace f2 := decide_eq_false f2
                      replace f3 := decide_eq_false f3
                      replace f4 := decide_eq_false f4
                      replace f5 := decide_eq_false f5
                      replace f6 := decide_eq_false f6
                      replace f7 := decide_eq_false f7
                      replace f8 := decide_eq_false f8
                      have g9 := Lib.hid (stB_no f9)
                      clear f9
                      go_enter Tryd.func46, Tryd.ntmps46
                      go_upto_region 1 with fail
                      rw [HV.out]
                      clear HV
                      go_wp2_with fail
                      refine (rst_any st _).mono ?_
                      rw [g9.out]
                      rintro e w1 ⟨rfl, rfl⟩
                      go_wp2
                      go_ret
                      exact ⟨rfl, BB.out⟩
                    · by_cases f10 : rn < 0
                      · rw [chk_head (t := ⟨id, tn, pg, pc, un, k0, k1, k2, k3, st, rn⟩) (fun q => by have := q.2.2.2.2.2.1.1; dsimp only at this; omega)]
                        replace f0 := decide_eq_false f0
                        replace f1 := decide_eq_false f1
                        replace f2 := decide_eq_false f2
                        replace f3 := decide_eq_false f3
                        replace f4 := decide_eq_false f4
                        replace f5 := decide_eq_false f5
                        replace f6 := decide_eq_false f6
                        replace f7 := decide_eq_false f7
                        replace f8 := decide_eq_false f8
                        have g9 := Lib.hid (stB_yes f9)
                        clear f9
                        go_enter Tryd.func46, Tryd.ntmps46
                        go_upto_region 1 with fail
                        rw [HV.out]
                        clear HV
                        go_wp2_with fail
                        refine (rst_any st _).mono ?_
                        rw [g9.out]
                        rintro e w1 ⟨rfl, rfl⟩
                        go_wp2
                        go_ret
                        exact ⟨rfl, BB.out⟩
                      · by_cases f11 : 1099511627776 < rn
                        · rw [chk_head (t := ⟨id, tn, pg, pc, un, k0, k1, k2, k3, st, rn⟩) (fun q => by have := q.2.2.2.2.2.1.2; dsimp only at this; omega)]
                          replace f0 := decide_eq_false f0
                          replace f1 := decide_eq_false f1
                          replace f2 := decide_eq_false f2
                          replace f3 := decide_eq_false f3
                          replace f4 := decide_eq_false f4
                          replace f5 := decide_eq_false f5
                          replace f6 := decide_eq_false f6
                          replace f7 := decide_eq_false f7
                          replace f8 := decide_eq_false f8
                          have g9 := Lib.hid (stB_yes f9)
                          clear f9
                          replace f10 := decide_eq_false f10
                          go_enter Tryd.func46, Tryd.ntmps46
                          go_upto_region 1 with fail
                          rw [HV.out]
                          clear HV
                          go_wp2_with fail
                          refine (rst_any st _).mono ?_
                          rw [g9.out]
                          rintro e w1 ⟨rfl, rfl⟩
                          go_wp2
                          go_ret
                          exact ⟨rfl, BB.out⟩
                        · have hh : hdT ⟨id, tn, pg, pc, un, k0, k1, k2, k3, st, rn⟩ := ⟨by show 0 ≤ id; omega, ⟨by show 0 ≤ tn; omega, by show tn < 16; omega⟩, ⟨by show 0 ≤ pg; omega, by show pg < 16; omega⟩, ⟨by show 0 ≤ pc; omega, by show pc < 33; omega⟩, ⟨by show 0 ≤ un; omega, by show un < 100; omega⟩, ⟨by show 0 ≤ rn; omega, by show rn ≤ 1099511627776; omega⟩, Classical.not_not.1 f9⟩
                          have HH := Lib.hid hh
                          have K0 : Hid (k0 < -1 → chkE ⟨id, tn, pg, pc, un, k0, k1, k2, k3, st, rn⟩ = 1) := Lib.hid (fun h => chk_keep (fun q => absurd q.1 (by show ¬ (-1 ≤ k0); omega)))
                          have K1 : Hid (k1 < -1 → chkE ⟨id, tn, pg, pc, un, k0, k1, k2, k3, st, rn⟩ = 1) := Lib.hid (fun h => chk_keep (fun q => absurd q.2.1 (by show ¬ (-1 ≤ k1); omega)))
                          have K2 : Hid (k2 < -1 → chkE ⟨id, tn, pg, pc, un, k0, k1, k2, k3, st, rn⟩ = 1) := Lib.hid (fun h => chk_keep (fun q => absurd q.2.2.1 (by show ¬ (-1 ≤ k2); omega)))
                          have K3 : Hid (k3 < -1 → chkE ⟨id, tn, pg, pc, un, k0, k1, k2, k3, st, rn⟩ = 1) := Lib.hid (fun h => chk_keep (fun q => absurd q.2.2.2 (by show ¬ (-1 ≤ k3); omega)))
                          have KO : Hid (-1 ≤ k0 → -1 ≤ k1 → -1 ≤ k2 → -1 ≤ k3 → chkE ⟨id, tn, pg, pc, un, k0, k1, k2, k3, st, rn⟩ = 0) := Lib.hid (fun a b c d => chk_ok hh ⟨a, b, c, d⟩)
                          generalize chkE ⟨id, tn, pg, pc, un, k0, k1, k2, k3, st, rn⟩ = R at K0 K1 K2 K3 KO ⊢
                          clear hh HH
                          replace f0 := decide_eq_false f0
                          replace f1 := decide_eq_false f1
                          replace f2 := decide_eq_false f2
                          replace f3 := decide_eq_false f3
                          replace f4 := decide_eq_false f4
                          replace f5 := decide_eq_false f5
                          replace f6 := decide_eq_false f6
                          replace f7 := decide_eq_false f7
                          replace f8 := decide_eq_false f8
                          have g9 := Lib.hid (stB_yes f9)
                          clear f9
                          replace f10 := decide_eq_false f10
                          replace f11 := decide_eq_false f11
                          go_enter Tryd.func46, Tryd.ntmps46
                          go_upto_region 1 with fail
                          rw [HV.out]
                          clear HV
                          go_wp2_with fail
                          refine (rst_any st _).mono ?_
                          rw [g9.out]
                          rintro e w1 ⟨rfl, rfl⟩
                          go_wp2_with fail
                          go_loopw [66] (fun t wr => wr = V ∧ ∃ j : Nat, j ≤ 4 ∧ t = .int .i64 j ∧ Hid (KJ k0 k1 k2 k3 j)) (fun t _ => 4 - (intOf t).toNat)
                          case atStart => exact ⟨rfl, 0, by omega, rfl, Lib.hid (by unfold KJ; omega)⟩
                          case round =>
                            obtain ⟨rfl, j, hj, rfl, HJ⟩ := hrel
                            have hj5 : j = 0 ∨ j = 1 ∨ j = 2 ∨ j = 3 ∨ j = 4 := by omega
                            clear hj
                            rcases hj5 with rfl | rfl | rfl | rfl | rfl
                            · have ix : ∀ w : World, (Instr.index 42 (.agg #[.int .i64 k0, .int .i64 k1, .int .i64 k2, .int .i64 k3]) (.int .i64 0)).run Tryd.prog w = .ok (.int .i64 k0) w := fun _ => by kernel_rfl
                              by_cases hk : -1 ≤ k0
                              · have HJ2 : Hid (KJ k0 k1 k2 k3 1) := Lib.hid (by have := HJ.out; unfold KJ at this ⊢; omega)
                                clear HJ
                                have hk2 : ¬ (k0 < -1) := by omega
                                clear hk
                                go_wp2_with fail
                                go_roundw
                                case rel => exact ⟨trivial, 1, by omega, rfl, HJ2⟩
                                case measure => simp [intOf]
                              · have HR := Lib.hid (K0.out (by omega))
                                have hk2 : k0 < -1 := by omega
                                clear hk
                                go_wp2
                                go_ret
                                exact ⟨by rw [HR.out]; rfl, BB.out⟩
                            · have ix : ∀ w : World, (Instr.index 42 (.agg #[.int .i64 k0, .int .i64 k1, .int .i64 k2, .int .i64 k3]) (.int .i64 1)).run Tryd.prog w = .ok (.int .i64 k1) w := fun _ => by kernel_rfl
                              by_cases hk : -1 ≤ k1
                              · have HJ2 : Hid (KJ k0 k1 k2 k3 2) := Lib.hid (by have := HJ.out; unfold KJ at this ⊢; omega)
                                clear HJ
                                have hk2 : ¬ (k1 < -1) := by omega
                                clear hk
                                go_wp2_with fail
                                go_roundw
                                case rel => exact ⟨trivial, 2, by omega, rfl, HJ2⟩
                                case measure => simp [intOf]
                              · have HR := Lib.hid (K1.out (by omega))
                                have hk2 : k1 < -1 := by omega
                                clear hk
                                go_wp2
                                go_ret
                                exact ⟨by rw [HR.out]; rfl, BB.out⟩
                            · have ix : ∀ w : World, (Instr.index 42 (.agg #[.int .i64 k0, .int .i64 k1, .int .i64 k2, .int .i64 k3]) (.int .i64 2)).run Tryd.prog w = .ok (.int .i64 k2) w := fun _ => by kernel_rfl
                              by_cases hk : -1 ≤ k2
                              · have HJ2 : Hid (KJ k0 k1 k2 k3 3) := Lib.hid (by have := HJ.out; unfold KJ at this ⊢; omega)
                                clear HJ
                                have hk2 : ¬ (k2 < -1) := by omega
                                clear hk
                                go_wp2_with fail
                                go_roundw
                                case rel => exact ⟨trivial, 3, by omega, rfl, HJ2⟩
                                case measure => simp [intOf]
                              · have HR := Lib.hid (K2.out (by omega))
                                have hk2 : k2 < -1 := by omega
                                clear hk
                                go_wp2
                                go_ret
                                exact ⟨by rw [HR.out]; rfl, BB.out⟩
                            · have ix : ∀ w : World, (Instr.index 42 (.agg #[.int .i64 k0, .int .i64 k1, .int .i64 k2, .int .i64 k3]) (.int .i64 3)).run Tryd.prog w = .ok (.int .i64 k3) w := fun _ => by kernel_rfl
                              by_cases hk : -1 ≤ k3
                              · have HJ2 : Hid (KJ k0 k1 k2 k3 4) := Lib.hid (by have := HJ.out; unfold KJ at this ⊢; omega)
                                clear HJ
                                have hk2 : ¬ (k3 < -1) := by omega
                                clear hk
                                go_wp2_with fail
                                go_roundw
                                case rel => exact ⟨trivial, 4, by omega, rfl, HJ2⟩
                                case measure => simp [intOf]
                              · have HR := Lib.hid (K3.out (by omega))
                                have hk2 : k3 < -1 := by omega
                                clear hk
                                go_wp2
                                go_ret
                                exact ⟨by rw [HR.out]; rfl, BB.out⟩
                            · have HR := Lib.hid (KO.out (by have := HJ.out; unfold KJ at this; omega) (by have := HJ.out; unfold KJ at this; omega) (by have := HJ.out; unfold KJ at this; omega) (by have := HJ.out; unfold KJ at this; omega))
                              clear HJ
                              go_wp2
                              go_ret
                              exact ⟨by rw [HR.out]; rfl, BB.out⟩

end Go.Proofs.YtfhlligcbpnkkaaDoor

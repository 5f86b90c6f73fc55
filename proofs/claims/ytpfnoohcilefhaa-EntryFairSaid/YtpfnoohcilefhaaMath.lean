/-
  The document's words of layer 4 as plain functions on lists: which instructions and programs may be, their units, their tasks; and that what a program comes to is known behind as many passes as there are programs.
-/
import Derived.Test.YtpfnoohcilefhaaInstr
namespace Go.Proofs.Ytpfnoohcilefhaa

/-- An instruction may be. -/
def mayB (x : I3) : Bool := decide ((x.1 = 1 ∧ 1 ≤ x.2.1 ∧ x.2.1 ≤ 100 ∧ x.2.2 = 0) ∨ (x.1 = 2 ∧ 0 ≤ x.2.1 ∧ x.2.1 ≤ 15 ∧ 0 ≤ x.2.2 ∧ x.2.2 ≤ 3) ∨ ((x.1 = 3 ∨ x.1 = 9) ∧ x.2.1 = 0 ∧ x.2.2 = 0) ∨
  (x.1 = 4 ∧ 1 ≤ x.2.1 ∧ x.2.1 ≤ 1000 ∧ x.2.2 = 0) ∨ (x.1 = 5 ∧ 0 ≤ x.2.1 ∧ x.2.1 ≤ 15 ∧ x.2.2 = 0) ∨ (x.1 = 6 ∧ 0 ≤ x.2.1 ∧ x.2.1 ≤ 3 ∧ x.2.2 = 0) ∨ ((x.1 = 7 ∨ x.1 = 8) ∧ 0 ≤ x.2.1 ∧ x.2.1 ≤ 7 ∧ x.2.2 = 0))

theorem may_bound {x : I3} (h : mayB x = true) : 1 ≤ x.1 ∧ x.1 ≤ 9 ∧ 0 ≤ x.2.1 ∧ x.2.1 ≤ 1000 ∧ 0 ≤ x.2.2 ∧ x.2.2 ≤ 3 ∧ (x.1 = 1 → 1 ≤ x.2.1 ∧ x.2.1 ≤ 100) := by
  have := of_decide_eq_true h
  omega

/-- A program may be. -/
def okP (p : List I3) : Prop := 1 ≤ p.length ∧ p.length ≤ 32 ∧ ∀ j, j < p.length → mayB (ith p j) = true
/-- Programs may be. -/
def okL (l : List (List I3)) : Prop := 1 ≤ l.length ∧ l.length ≤ 16 ∧ ∀ j, j < l.length → okP (pth l j) ∧ ∀ k, k < (pth l j).length → jO (pth l j) k = 2 → jA (pth l j) k < (l.length : Int)
open Classical in
noncomputable def errP (p : List I3) : Int := if okP p then 0 else 1
open Classical in
noncomputable def errL (l : List (List I3)) : Int := if okL l then 0 else 1
theorem errP_ok {p : List I3} (h : okP p) : errP p = 0 := if_pos h
theorem errP_no {p : List I3} (h : ¬ okP p) : errP p = 1 := if_neg h
theorem errL_ok {l : List (List I3)} (h : okL l) : errL l = 0 := if_pos h
theorem errL_no {l : List (List I3)} (h : ¬ okL l) : errL l = 1 := if_neg h

/-- Up to, and with, its first exit. -/
def runLen : List I3 → Nat
  | [] => 0
  | x :: p => if x.1 = 9 then 1 else runLen p + 1
/-- It has an exit. -/
def hasExit (p : List I3) : Prop := ∃ j, j < p.length ∧ jO p j = 9

theorem jO_succ (x : I3) (p : List I3) (j : Nat) : jO (x :: p) (j + 1) = jO p j := rfl
theorem jO_zero (x : I3) (p : List I3) : jO (x :: p) 0 = x.1 := rfl

theorem runLen_le (p : List I3) : runLen p ≤ p.length := by
  induction p with
  | nil => simp [runLen]
  | cons x p ih => simp only [runLen, List.length_cons]; split <;> omega

theorem runLen_exit {p : List I3} : ∀ {k : Nat}, k < p.length → (∀ j, j < k → jO p j ≠ 9) → jO p k = 9 → runLen p = k + 1 := by
  induction p with
  | nil => intro k h; simp at h
  | cons x p ih =>
    intro k hk h0 h1
    match k with
    | 0 => simp only [runLen]; rw [if_pos (show x.1 = 9 from h1)]
    | k + 1 =>
      simp only [runLen]
      rw [if_neg (show ¬ x.1 = 9 from h0 0 (by omega)), ih (k := k) (by simpa using hk) (fun j hj => h0 (j + 1) (by omega)) h1]

theorem runLen_none {p : List I3} (h : ∀ j, j < p.length → jO p j ≠ 9) : runLen p = p.length := by
  induction p with
  | nil => rfl
  | cons x p ih =>
    simp only [runLen]
    rw [if_neg (show ¬ x.1 = 9 from h 0 (by simp)), ih (fun j hj => h (j + 1) (by simpa using hj))]
    simp

theorem runLen_before {p : List I3} : ∀ {j : Nat}, j + 1 < runLen p → jO p j ≠ 9 := by
  induction p with
  | nil => intro j h; simp [runLen] at h
  | cons x p ih =>
    intro j h
    simp only [runLen] at h
    split at h
    · omega
    · match j with
      | 0 => assumption
      | j + 1 => exact ih (j := j) (by omega)

theorem runLen_pos {p : List I3} (h : 0 < p.length) : 0 < runLen p := by
  match p with
  | x :: p => simp only [runLen]; split <;> omega

theorem runLen_last {p : List I3} (h : hasExit p) : 0 < runLen p ∧ jO p (runLen p - 1) = 9 := by
  induction p with
  | nil => obtain ⟨j, hj, _⟩ := h; simp at hj
  | cons x p ih =>
    simp only [runLen]
    by_cases hx : x.1 = 9
    · rw [if_pos hx]; exact ⟨by omega, hx⟩
    · rw [if_neg hx]
      obtain ⟨j, hj, he⟩ := h
      match j with
      | 0 => exact absurd he hx
      | j + 1 =>
        obtain ⟨h1, h2⟩ := ih ⟨j, by simpa using hj, he⟩
        refine ⟨by omega, ?_⟩
        have e : runLen p + 1 - 1 = (runLen p - 1) + 1 := by omega
        rw [e]; exact h2

theorem runLen_app_exit {p : List I3} (q : List I3) (h : hasExit p) : runLen (p ++ q) = runLen p := by
  induction p with
  | nil => obtain ⟨j, hj, _⟩ := h; simp at hj
  | cons x p ih =>
    simp only [List.cons_append, runLen]
    by_cases hx : x.1 = 9
    · rw [if_pos hx, if_pos hx]
    · rw [if_neg hx, if_neg hx]
      obtain ⟨j, hj, he⟩ := h
      match j with
      | 0 => exact absurd he hx
      | j + 1 => rw [ih ⟨j, by simpa using hj, he⟩]

theorem runLen_app_none {p : List I3} (q : List I3) (h : ¬ hasExit p) : runLen (p ++ q) = p.length + runLen q := by
  induction p with
  | nil => simp
  | cons x p ih =>
    simp only [List.cons_append, runLen, List.length_cons]
    have hx : x.1 ≠ 9 := fun e => h ⟨0, by simp, e⟩
    rw [if_neg hx, ih (fun ⟨j, hj, he⟩ => h ⟨j + 1, by simpa using hj, he⟩)]
    omega

/-- The first k units. -/
def unitsK (p : List I3) : Nat → Int
  | 0 => 0
  | k + 1 => unitsK p k + (if jO p k = 1 then jA p k else 1)
def units (p : List I3) : Int := unitsK p (runLen p)

theorem unitsK_bound {p : List I3} (h : okP p) : ∀ {k : Nat}, k ≤ p.length → (k : Int) ≤ unitsK p k ∧ unitsK p k ≤ 100 * k := by
  intro k
  induction k with
  | zero => intro _; simp [unitsK]
  | succ k ih =>
    intro hk
    have := ih (by omega)
    have hm := may_bound (h.2.2 k (by omega))
    unfold unitsK
    split
    · rename_i h1
      have := hm.2.2.2.2.2.2 h1
      unfold jA
      omega
    · omega

theorem ith_app_left {p q : List I3} {j : Nat} (h : j < p.length) : ith (p ++ q) j = ith p j := by
  rw [ith_get (by simp; omega), ith_get h, List.getElem_append_left]
theorem ith_app_right {p q : List I3} (j : Nat) : ith (p ++ q) (p.length + j) = ith q j := by
  unfold ith List.getD
  rw [List.getElem?_append_right (by omega), Nat.add_sub_cancel_left]

theorem unitsK_app_left {p : List I3} (q : List I3) : ∀ {k : Nat}, k ≤ p.length → unitsK (p ++ q) k = unitsK p k := by
  intro k
  induction k with
  | zero => intro _; rfl
  | succ k ih =>
    intro hk
    unfold unitsK jO jA
    rw [ih (by omega), ith_app_left (by omega)]

theorem unitsK_app_right (p q : List I3) (k : Nat) : unitsK (p ++ q) (p.length + k) = unitsK p p.length + unitsK q k := by
  induction k with
  | zero => simp [unitsK, unitsK_app_left]
  | succ k ih =>
    rw [← Nat.add_assoc]
    conv => lhs; unfold unitsK
    conv => rhs; rhs; unfold unitsK
    unfold jO jA
    rw [ih, ith_app_right]
    omega

theorem units_app_exit {p : List I3} (q : List I3) (h : hasExit p) : units (p ++ q) = units p := by
  unfold units
  rw [runLen_app_exit q h, unitsK_app_left q (runLen_le p)]

theorem not_exit {p : List I3} (h : ¬ hasExit p) : ∀ j, j < p.length → jO p j ≠ 9 := fun j hj e => h ⟨j, hj, e⟩

theorem units_app_none {p : List I3} (q : List I3) (h : ¬ hasExit p) : units (p ++ q) = units p + units q := by
  unfold units
  rw [runLen_app_none q h, unitsK_app_right, runLen_none (not_exit h)]

theorem okP_left {p q : List I3} (h : okP (p ++ q)) (hp : 0 < p.length) : okP p := by
  have h2 := h.2.1
  rw [List.length_append] at h2
  refine ⟨hp, by omega, fun j hj => ?_⟩
  have := h.2.2 j (by rw [List.length_append]; omega)
  rwa [ith_app_left hj] at this

theorem okP_app {p q : List I3} (hp : okP p) (hq : okP q) (h : p.length + q.length ≤ 32) : okP (p ++ q) := by
  refine ⟨by have := hp.1; simp; omega, by simpa using h, fun j hj => ?_⟩
  rcases Nat.lt_or_ge j p.length with h1 | h1
  · rw [ith_app_left h1]; exact hp.2.2 j h1
  · obtain ⟨i, rfl⟩ : ∃ i, j = p.length + i := ⟨j - p.length, by omega⟩
    rw [ith_app_right]
    exact hq.2.2 i (by rw [List.length_append] at hj; omega)

/-- What the first k instructions come to, where each that spawns comes to what g tells. -/
def kidsK (g : Nat → Option Nat) (p : List I3) : Nat → Option Nat
  | 0 => some 1
  | k + 1 =>
    match kidsK g p k with
    | none => none
    | some s => if jO p k = 2 then (match g (jA p k).toNat with | none => none | some m => some (s + m)) else some s

/-- What program i comes to, if that is known behind f passes. -/
def cnt (l : List (List I3)) : Nat → Nat → Option Nat
  | 0, _ => none
  | f + 1, i => kidsK (cnt l f) (pth l i) (runLen (pth l i))

section
variable {g g' : Nat → Option Nat} {p : List I3} {k s : Nat}
theorem kids_other (h : kidsK g p k = some s) (ho : jO p k ≠ 2) : kidsK g p (k + 1) = some s := by simp [kidsK, h, ho]
theorem kids_spawn {m : Nat} (h : kidsK g p k = some s) (ho : jO p k = 2) (hm : g (jA p k).toNat = some m) : kidsK g p (k + 1) = some (s + m) := by simp [kidsK, h, ho, hm]
theorem kids_bad (h : kidsK g p k = some s) (ho : jO p k = 2) (hm : g (jA p k).toNat = none) : kidsK g p (k + 1) = none := by simp [kidsK, h, ho, hm]
theorem kids_stays (h : kidsK g p k = none) (d : Nat) : kidsK g p (k + d) = none := by
  induction d with
  | zero => exact h
  | succ d ih => rw [← Nat.add_assoc]; simp [kidsK, ih]
theorem kids_none_le (h : kidsK g p k = none) {n : Nat} (hn : k ≤ n) : kidsK g p n = none := by
  obtain ⟨d, rfl⟩ : ∃ d, n = k + d := ⟨n - k, by omega⟩
  exact kids_stays h d

theorem kids_mono (hg : ∀ i c, g i = some c → g' i = some c) : ∀ {k s : Nat}, kidsK g p k = some s → kidsK g' p k = some s := by
  intro k
  induction k with
  | zero => intro s h; exact h
  | succ k ih =>
    intro s h
    rw [kidsK] at h
    split at h
    · cases h
    · rename_i s0 h0
      split at h
      · rename_i h2
        split at h
        · cases h
        · rename_i m hm
          injection h with h
          subst h
          exact kids_spawn (ih h0) h2 (hg _ _ hm)
      · rename_i h2
        injection h with h
        subst h
        exact kids_other (ih h0) h2

theorem kids_pos : ∀ {k s : Nat}, kidsK g p k = some s → 1 ≤ s := by
  intro k
  induction k with
  | zero => intro s h; injection h with h; omega
  | succ k ih =>
    intro s h
    rw [kidsK] at h
    split at h
    · cases h
    · rename_i s0 h0
      have := ih h0
      split at h
      · split at h
        · cases h
        · injection h with h; omega
      · injection h with h; omega

/-- Where all is known, each that is spawned is, and comes to less. -/
theorem kids_each : ∀ {k s : Nat}, kidsK g p k = some s → ∀ j, j < k → jO p j = 2 → ∃ m, g (jA p j).toNat = some m ∧ m < s := by
  intro k
  induction k with
  | zero => intro s _ j hj; omega
  | succ k ih =>
    intro s h j hj ho
    rw [kidsK] at h
    split at h
    · cases h
    · rename_i s0 h0
      have hp := kids_pos h0
      split at h
      · rename_i h2
        split at h
        · cases h
        · rename_i m hm
          injection h with h
          rcases Nat.lt_or_ge j k with hjk | hjk
          · obtain ⟨m', h1, h3⟩ := ih h0 j hjk ho
            exact ⟨m', h1, by omega⟩
          · obtain rfl : j = k := by omega
            exact ⟨m, hm, by omega⟩
      · rename_i h2
        injection h with h
        subst h
        rcases Nat.lt_or_ge j k with hjk | hjk
        · exact ih h0 j hjk ho
        · obtain rfl : j = k := by omega
          exact absurd ho h2

/-- Where not all is known, one that is spawned is not. -/
theorem kids_some (h : ∀ j, j < k → jO p j = 2 → ∃ m, g (jA p j).toNat = some m) : ∃ s, kidsK g p k = some s := by
  induction k with
  | zero => exact ⟨1, rfl⟩
  | succ k ih =>
    obtain ⟨s, hs⟩ := ih (fun j hj => h j (by omega))
    by_cases h2 : jO p k = 2
    · obtain ⟨m, hm⟩ := h k (by omega) h2
      exact ⟨_, kids_spawn hs h2 hm⟩
    · exact ⟨_, kids_other hs h2⟩
end

section
variable {l : List (List I3)}
theorem cnt_step : ∀ {f i c : Nat}, cnt l f i = some c → cnt l (f + 1) i = some c := by
  intro f
  induction f with
  | zero => intro i c h; cases h
  | succ f ih =>
    intro i c h
    exact kids_mono (fun j d hd => ih hd) h
theorem cnt_mono {f i c : Nat} (h : cnt l f i = some c) {n : Nat} (hn : f ≤ n) : cnt l n i = some c := by
  obtain ⟨d, rfl⟩ : ∃ d, n = f + d := ⟨n - f, by omega⟩
  clear hn
  induction d with
  | zero => exact h
  | succ d ih => exact cnt_step ih
theorem cnt_same {f f' i c c' : Nat} (h : cnt l f i = some c) (h' : cnt l f' i = some c') : c = c' := by
  have a := cnt_mono h (Nat.le_max_left f f')
  have b := cnt_mono h' (Nat.le_max_right f f')
  rw [a] at b
  injection b
theorem cnt_pos {f i c : Nat} (h : cnt l f i = some c) : 1 ≤ c := by
  match f, h with
  | f + 1, h => exact kids_pos h

/-- Each that is spawned is one of the programs. -/
def Closed (l : List (List I3)) : Prop := ∀ i, i < l.length → ∀ k, k < runLen (pth l i) → jO (pth l i) k = 2 → (jA (pth l i) k).toNat < l.length

theorem count_more (xs : List Nat) (p q : Nat → Bool) (h : ∀ x, p x = true → q x = true) :
    (xs.filter p).length ≤ (xs.filter q).length ∧ ((∃ x ∈ xs, q x = true ∧ p x = false) → (xs.filter p).length + 1 ≤ (xs.filter q).length) := by
  induction xs with
  | nil => exact ⟨by simp, fun ⟨x, hx, _⟩ => by simp at hx⟩
  | cons a xs ih =>
    obtain ⟨i1, i2⟩ := ih
    by_cases ha : p a = true
    · rw [List.filter_cons_of_pos ha, List.filter_cons_of_pos (h a ha)]
      refine ⟨by simpa using i1, fun ⟨x, hx, hq, hp⟩ => ?_⟩
      rcases List.mem_cons.1 hx with rfl | hx
      · rw [ha] at hp; cases hp
      · have := i2 ⟨x, hx, hq, hp⟩
        simpa using this
    · rw [List.filter_cons_of_neg ha]
      by_cases hb : q a = true
      · rw [List.filter_cons_of_pos hb]
        exact ⟨by simp; omega, fun _ => by simp; omega⟩
      · rw [List.filter_cons_of_neg hb]
        refine ⟨i1, fun ⟨x, hx, hq, hp⟩ => ?_⟩
        rcases List.mem_cons.1 hx with rfl | hx
        · exact absurd hq hb
        · exact i2 ⟨x, hx, hq, hp⟩

/-- Nothing more is known behind one pass more. -/
def Still (l : List (List I3)) (f : Nat) : Prop := ∀ i, i < l.length → ∀ c, cnt l (f + 1) i = some c → ∃ d, cnt l f i = some d

theorem still_next (hc : Closed l) {f : Nat} (h : Still l f) : Still l (f + 1) := by
  intro i hi c hcn
  refine kids_some (g := cnt l f) fun j hj ho => ?_
  obtain ⟨m, hm, _⟩ := kids_each (show kidsK (cnt l (f + 1)) (pth l i) (runLen (pth l i)) = some c from hcn) j hj ho
  exact h _ (hc i hi j hj ho) m hm

theorem still_or (hc : Closed l) (f : Nat) : f ≤ ((List.range l.length).filter fun i => (cnt l f i).isSome).length ∨ Still l f := by
  induction f with
  | zero => exact .inl (Nat.zero_le _)
  | succ f ih =>
    by_cases hs : Still l f
    · exact .inr (still_next hc hs)
    · rcases ih with ih | ih
      · left
        refine Nat.le_trans (Nat.succ_le_succ ih) ((count_more _ _ _ ?_).2 ?_)
        · intro x hx
          obtain ⟨c, hcx⟩ := Option.isSome_iff_exists.1 hx
          rw [cnt_step hcx]; rfl
        · unfold Still at hs
          obtain ⟨i, hs⟩ := Classical.not_forall.1 hs
          obtain ⟨hi, hs⟩ := Classical.not_imp.1 hs
          obtain ⟨c, hs⟩ := Classical.not_forall.1 hs
          obtain ⟨hcn, hs⟩ := Classical.not_imp.1 hs
          refine ⟨i, List.mem_range.2 hi, by rw [hcn]; rfl, ?_⟩
          cases hx : cnt l f i with
          | none => rfl
          | some d => exact absurd ⟨d, hx⟩ hs
      · exact absurd ih hs

theorem still_all (hc : Closed l) : Still l l.length := by
  rcases still_or hc l.length with h | h
  · intro i hi c _
    cases hx : cnt l l.length i with
    | some d => exact ⟨d, rfl⟩
    | none =>
      exfalso
      have h1 := (count_more (List.range l.length) (fun i => (cnt l l.length i).isSome) (fun _ => true) (fun _ _ => rfl)).2 ⟨i, List.mem_range.2 hi, rfl, by rw [hx]; rfl⟩
      rw [List.filter_eq_self.2 (fun _ _ => rfl), List.length_range] at h1
      omega
  · exact h

/-- What is known at all is known behind as many passes as there are programs. -/
theorem cnt_fin (hc : Closed l) {f i c : Nat} (hi : i < l.length) (h : cnt l f i = some c) : cnt l l.length i = some c := by
  have key : ∀ d i, i < l.length → ∀ c, cnt l (l.length + d) i = some c → ∃ e, cnt l l.length i = some e := by
    intro d
    have hs : Still l (l.length + d) := by
      clear h
      induction d with
      | zero => exact still_all hc
      | succ d ih => exact still_next hc ih
    clear hs
    induction d with
    | zero => intro i _ c h; exact ⟨c, h⟩
    | succ d ih =>
      intro i hi c h
      have hs : Still l (l.length + d) := by
        clear ih h
        induction d with
        | zero => exact still_all hc
        | succ d ih => exact still_next hc ih
      obtain ⟨e, he⟩ := hs i hi c h
      exact ih i hi e he
  have h' := cnt_mono h (Nat.le_add_left f l.length)
  obtain ⟨e, he⟩ := key f i hi c h'
  rw [he, cnt_same he h]

theorem okL_closed (h : okL l) : Closed l := by
  intro i hi k hk ho
  have h1 := (h.2.2 i hi).1.2.2 k (Nat.lt_of_lt_of_le hk (runLen_le _))
  have h2 := (h.2.2 i hi).2 k (Nat.lt_of_lt_of_le hk (runLen_le _)) ho
  have := may_bound h1
  unfold jA at h2 ⊢
  omega

/-- What program i comes to, if it does not come to itself. -/
def tot (l : List (List I3)) (i : Nat) : Option Nat := cnt l l.length i

open Classical in
/-- What Tasks answers: a number, an error. -/
noncomputable def tasksA (l : List (List I3)) (i : Int) : Int × Int :=
  if okL l then
    (if 0 ≤ i ∧ i < l.length then
      (match tot l i.toNat with
      | none => (0, 9)
      | some c => if 1099511627776 < c then (0, 4) else ((c : Int), 0))
    else (0, 1))
  else (0, 1)

theorem tasksA_no {i : Int} (h : ¬ okL l) : tasksA l i = (0, 1) := if_neg h
theorem tasksA_out {i : Int} (h : ¬ (0 ≤ i ∧ i < l.length)) : tasksA l i = (0, 1) := by
  unfold tasksA
  rw [if_neg h]; split <;> rfl
theorem tasksA_none {i : Nat} (h : okL l) (hi : i < l.length) (ht : tot l i = none) : tasksA l i = (0, 9) := by
  unfold tasksA
  rw [if_pos h, if_pos (by omega), Int.toNat_natCast, ht]
theorem tasksA_large {i c : Nat} (h : okL l) (hi : i < l.length) (ht : tot l i = some c) (hc : 1099511627776 < c) : tasksA l i = (0, 4) := by
  unfold tasksA
  rw [if_pos h, if_pos (by omega), Int.toNat_natCast, ht]
  exact if_pos hc
theorem tasksA_ok {i c : Nat} (h : okL l) (hi : i < l.length) (ht : tot l i = some c) (hc : c ≤ 1099511627776) : tasksA l i = ((c : Int), 0) := by
  unfold tasksA
  rw [if_pos h, if_pos (by omega), Int.toNat_natCast, ht]
  exact if_neg (by omega)
end

/-- Are two programs the same, are programs? -/
def sameP (p q : List I3) : Bool := decide (p = q)
def sameL (l o : List (List I3)) : Bool := decide (l = o)

/-- Programs are few enough. -/
def fewB (l : List (List I3)) : Bool := decide (l.length ≤ 100 ∧ ∀ j, j < l.length → (pth l j).length ≤ 100)

end Go.Proofs.Ytpfnoohcilefhaa

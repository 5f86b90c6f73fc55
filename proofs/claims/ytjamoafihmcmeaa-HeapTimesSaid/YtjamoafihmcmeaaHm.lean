/-
  Layer 8, plain mathematics of a heap whose places have four below: a timer that rises, one that sinks; what comes of a heap with one place turned.
-/
import Derived.Test.YtjamoafihmcmeaaTm
namespace Go.Proofs.Ytjamoafihmcmeaa

def par (i : Nat) : Nat := (i - 1) / 4
def swapL (l : List Tm) (i j : Nat) : List Tm := (l.set i (ith l j)).set j (ith l i)
theorem ith_set (l : List Tm) (i : Nat) (x : Tm) (j : Nat) (hi : i < l.length) : ith (l.set i x) j = if i = j then x else ith l j := by
  unfold ith
  rw [List.getD_eq_getElem?_getD, List.getD_eq_getElem?_getD, List.getElem?_set]
  split
  · first | rfl | (simp [hi])
  · rfl
theorem swap_len (l : List Tm) (i j : Nat) : (swapL l i j).length = l.length := by simp [swapL]
theorem ith_swap {l : List Tm} {i j : Nat} (hi : i < l.length) (hj : j < l.length) (k : Nat) : ith (swapL l i j) k = if j = k then ith l i else if i = k then ith l j else ith l k := by
  unfold swapL
  rw [ith_set _ _ _ _ (by simpa using hj), ith_set _ _ _ _ hi]
theorem swap_perm {l : List Tm} {i j : Nat} (hi : i < l.length) (hj : j < l.length) : (swapL l i j).Perm l := by
  unfold swapL
  rw [ith_get hi, ith_get hj]
  exact List.set_set_perm hi hj

inductive Rise : List Tm → Nat → List Tm → Prop
  | stop {l i} (h : ¬ (0 < i ∧ lessT (ith l i) (ith l (par i)))) : Rise l i l
  | step {l i r} (h0 : 0 < i) (h : lessT (ith l i) (ith l (par i))) (k : Rise (swapL l i (par i)) (par i) r) : Rise l i r
def fstK (l : List Tm) (i : Nat) : Nat → Nat
  | 0 => i
  | k + 1 => if 4 * i + 1 + k < l.length ∧ lessT (ith l (4 * i + 1 + k)) (ith l (fstK l i k)) then 4 * i + 1 + k else fstK l i k
def fst4 (l : List Tm) (i : Nat) : Nat := fstK l i 4
inductive Sink : List Tm → Nat → List Tm → Prop
  | stop {l i} (h : fst4 l i = i) : Sink l i l
  | step {l i r} (h : fst4 l i ≠ i) (k : Sink (swapL l i (fst4 l i)) (fst4 l i) r) : Sink l i r

theorem fstK_lt {l : List Tm} {i : Nat} (hi : i < l.length) : ∀ k, fstK l i k < l.length
  | 0 => hi
  | k + 1 => by
    unfold fstK
    split
    · rename_i h; exact h.1
    · exact fstK_lt hi k
theorem fstK_what (l : List Tm) (i : Nat) : ∀ k, fstK l i k = i ∨ (∃ j, j < k ∧ fstK l i k = 4 * i + 1 + j ∧ 4 * i + 1 + j < l.length)
  | 0 => .inl rfl
  | k + 1 => by
    unfold fstK
    split
    · rename_i h; exact .inr ⟨k, by omega, rfl, h.1⟩
    · rcases fstK_what l i k with h | ⟨j, hj, h⟩
      · exact .inl h
      · exact .inr ⟨j, by omega, h⟩
theorem fstK_le (l : List Tm) (i : Nat) : ∀ k, leT (ith l (fstK l i k)) (ith l i)
  | 0 => leT_refl _
  | k + 1 => by
    unfold fstK
    split
    · rename_i h; exact leT_trans (leT_of_less h.2) (fstK_le l i k)
    · exact fstK_le l i k
theorem fstK_least (l : List Tm) (i : Nat) : ∀ k j, j < k → 4 * i + 1 + j < l.length → leT (ith l (fstK l i k)) (ith l (4 * i + 1 + j))
  | 0, j, h, _ => absurd h (Nat.not_lt_zero _)
  | k + 1, j, hj, hl => by
    unfold fstK
    split
    · rename_i h
      rcases Nat.lt_or_ge j k with h1 | h1
      · exact leT_trans (leT_of_less h.2) (fstK_least l i k j h1 hl)
      · obtain rfl : j = k := by omega
        exact leT_refl _
    · rename_i h
      rcases Nat.lt_or_ge j k with h1 | h1
      · exact fstK_least l i k j h1 hl
      · obtain rfl : j = k := by omega
        exact fun q => h ⟨hl, q⟩
/-- Behind the last place nothing comes ahead. -/
theorem fstK_end {l : List Tm} {i k : Nat} (h : l.length ≤ 4 * i + 1 + k) : ∀ m, fstK l i (k + m) = fstK l i k
  | 0 => rfl
  | m + 1 => by
    have e : fstK l i (k + m + 1) = if 4 * i + 1 + (k + m) < l.length ∧ lessT (ith l (4 * i + 1 + (k + m))) (ith l (fstK l i (k + m))) then 4 * i + 1 + (k + m) else fstK l i (k + m) := rfl
    rw [← Nat.add_assoc, e, if_neg (by omega)]
    exact fstK_end h m
theorem fst4_less {l : List Tm} {i : Nat} (h : fst4 l i ≠ i) : lessT (ith l (fst4 l i)) (ith l i) ∧ i < fst4 l i ∧ fst4 l i < l.length ∧ par (fst4 l i) = i := by
  have hw := fstK_what l i 4
  unfold fst4 at h ⊢
  rcases hw with hw | ⟨j, hj, hw, hl⟩
  · exact absurd hw h
  · refine ⟨?_, by omega, by omega, by unfold par; omega⟩
    have hle := fstK_le l i 4
    rcases Decidable.em (lessT (ith l (fstK l i 4)) (ith l i)) with h1 | h1
    · exact h1
    · have := leT_anti hle h1
      exfalso
      have aux : ∀ k, fstK l i k ≠ i → lessT (ith l (fstK l i k)) (ith l i) := by
        intro k
        induction k with
        | zero => intro q; exact absurd rfl q
        | succ k ih =>
          intro q
          unfold fstK at q ⊢
          split at q
          · rename_i h2
            rw [if_pos h2]
            have h3 := fstK_le l i k
            have h4 := h2.2
            unfold leT lessT at *
            omega
          · rename_i h2
            rw [if_neg h2]
            exact ih q
      exact h1 (aux 4 h)
theorem fst4_least {l : List Tm} {i j : Nat} (hj : 0 < j) (hl : j < l.length) (hp : par j = i) : leT (ith l (fst4 l i)) (ith l j) := by
  have h := fstK_least l i 4 (j - (4 * i + 1)) (by unfold par at hp; omega) (by unfold par at hp; omega)
  rw [show 4 * i + 1 + (j - (4 * i + 1)) = j by unfold par at hp; omega] at h
  exact h

def HeapL (l : List Tm) : Prop := ∀ j, 0 < j → j < l.length → leT (ith l (par j)) (ith l j)
/-- All stand right but what place i has to do with. -/
def H1 (l : List Tm) (i : Nat) : Prop := ∀ j, 0 < j → j < l.length → j ≠ i → par j ≠ i → leT (ith l (par j)) (ith l j)
/-- Those below place i stand right to what is above it. -/
def GG (l : List Tm) (i : Nat) : Prop := 0 < i → ∀ j, 0 < j → j < l.length → par j = i → leT (ith l (par i)) (ith l j)
def UpW (l : List Tm) (i : Nat) : Prop := (∀ j, 0 < j → j < l.length → j ≠ i → leT (ith l (par j)) (ith l j)) ∧ GG l i
def DownW (l : List Tm) (i : Nat) : Prop := (∀ j, 0 < j → j < l.length → par j ≠ i → leT (ith l (par j)) (ith l j)) ∧ GG l i
theorem par_lt {i : Nat} (h : 0 < i) : par i < i := by unfold par; omega
theorem HeapL.gg {l : List Tm} (h : HeapL l) (i : Nat) : GG l i := fun hi j hj hl hp => by
  have h1 := h j hj hl
  have hil : i < l.length := by have := par_lt hj; omega
  rw [hp] at h1
  exact leT_trans (h i hi hil) h1
theorem HeapL.down {l : List Tm} (h : HeapL l) (i : Nat) : DownW l i := ⟨fun j hj hl _ => h j hj hl, h.gg i⟩
theorem UpW.h1 {l : List Tm} {i : Nat} (h : UpW l i) : H1 l i := fun j hj hl hne _ => h.1 j hj hl hne
theorem up_step {l : List Tm} {i : Nat} (hi : i < l.length) (h : H1 l i) (g : GG l i) (h0 : 0 < i) (hl : lessT (ith l i) (ith l (par i))) : UpW (swapL l i (par i)) (par i) := by
  have hpi := par_lt h0
  have hpl : par i < l.length := by omega
  refine ⟨fun j hj hjl hne => ?_, fun hp0 j hj hjl hpj => ?_⟩
  · rw [swap_len] at hjl
    have hpj := par_lt hj
    rw [ith_swap hi hpl, ith_swap hi hpl]
    rw [if_neg (show ¬ par i = j by omega)]
    by_cases e1 : i = j
    · subst e1
      rw [if_pos rfl, if_pos rfl]
      exact leT_of_less hl
    · rw [if_neg e1]
      by_cases e2 : par i = par j
      · rw [if_pos e2]
        have := h j hj hjl (by omega) (by omega)
        rw [← e2] at this
        exact leT_trans (leT_of_less hl) this
      · rw [if_neg e2]
        by_cases e3 : i = par j
        · rw [if_pos e3]
          exact g h0 j hj hjl e3.symm
        · rw [if_neg e3]
          exact h j hj hjl (by omega) (by omega)
  · rw [swap_len] at hjl
    have hpp := par_lt hp0
    rw [ith_swap hi hpl, ith_swap hi hpl]
    rw [if_neg (show ¬ par i = par (par i) by omega), if_neg (show ¬ i = par (par i) by omega)]
    have hj2 := par_lt hj
    rw [if_neg (show ¬ par i = j by omega)]
    have hq := h (par i) hp0 hpl (by omega) (by omega)
    by_cases e1 : i = j
    · rw [if_pos e1]; exact hq
    · rw [if_neg e1]
      have := h j hj hjl (by omega) (by omega)
      rw [hpj] at this
      exact leT_trans hq this
theorem rise_up {l r : List Tm} {i : Nat} (hr : Rise l i r) (hi : i < l.length) (h : UpW l i) : HeapL r ∧ r.Perm l := by
  induction hr with
  | stop hn =>
    rename_i l i
    refine ⟨fun j hj hl => ?_, List.Perm.refl _⟩
    by_cases e : j = i
    · subst e
      exact fun q => hn ⟨hj, q⟩
    · exact h.1 j hj hl e
  | step h0 hl k ih =>
    rename_i l i r
    have hp : par i < l.length := by have := par_lt h0; omega
    obtain ⟨h1, h2⟩ := ih (by rw [swap_len]; exact hp) (up_step hi h.h1 h.2 h0 hl)
    exact ⟨h1, h2.trans (swap_perm hi hp)⟩
theorem rise_settle {l r : List Tm} {i : Nat} (hr : Rise l i r) (hi : i < l.length) (h : H1 l i) (g : GG l i) : DownW r i ∧ r.Perm l := by
  cases hr with
  | stop hn =>
    refine ⟨⟨fun j hj hl hp => ?_, g⟩, List.Perm.refl _⟩
    by_cases e : j = i
    · subst e
      exact fun q => hn ⟨hj, q⟩
    · exact h j hj hl e hp
  | step h0 hl k =>
    have hp : par i < l.length := by have := par_lt h0; omega
    obtain ⟨h1, h2⟩ := rise_up k (by rw [swap_len]; exact hp) (up_step hi h g h0 hl)
    exact ⟨h1.down i, h2.trans (swap_perm hi hp)⟩
theorem down_step {l : List Tm} {i : Nat} (hi : i < l.length) (h : DownW l i) (hf : fst4 l i ≠ i) : DownW (swapL l i (fst4 l i)) (fst4 l i) := by
  obtain ⟨hl, h1, h2, h3⟩ := fst4_less hf
  have least := fun j hj hjl hp => fst4_least (l := l) (i := i) (j := j) hj hjl hp
  generalize fst4 l i = f at *
  refine ⟨fun j hj hjl hne => ?_, fun hf0 j hj hjl hpj => ?_⟩
  · rw [swap_len] at hjl
    have hpj := par_lt hj
    rw [ith_swap hi h2, ith_swap hi h2]
    rw [if_neg (show ¬ f = par j by omega)]
    by_cases e1 : f = j
    · subst e1
      rw [if_pos rfl, if_pos h3.symm]
      exact leT_of_less hl
    · rw [if_neg e1]
      by_cases e2 : i = par j
      · rw [if_pos e2, if_neg (show ¬ i = j by omega)]
        exact least j hj hjl e2.symm
      · rw [if_neg e2]
        by_cases e3 : i = j
        · subst e3
          rw [if_pos rfl]
          exact h.2 hj f (by omega) h2 h3
        · rw [if_neg e3]
          exact h.1 j hj hjl (by omega)
  · rw [swap_len] at hjl
    have hpj2 := par_lt hj
    rw [ith_swap hi h2, ith_swap hi h2, h3]
    rw [if_neg (show ¬ f = i by omega), if_pos rfl, if_neg (show ¬ f = j by omega), if_neg (show ¬ i = j by omega)]
    have := h.1 j hj hjl (by omega)
    rw [hpj] at this
    exact this
theorem sink_down {l r : List Tm} {i : Nat} (hs : Sink l i r) (hi : i < l.length) (h : DownW l i) : HeapL r ∧ r.Perm l := by
  induction hs with
  | stop hn =>
    rename_i l i
    refine ⟨fun j hj hl => ?_, List.Perm.refl _⟩
    by_cases e : par j = i
    · have := fst4_least hj hl e
      rw [hn] at this
      rw [e]; exact this
    · exact h.1 j hj hl e
  | step hn k ih =>
    rename_i l i r
    obtain ⟨_, _, h2, _⟩ := fst4_less hn
    obtain ⟨a, b⟩ := ih (by rw [swap_len]; exact h2) (down_step hi h hn)
    exact ⟨a, b.trans (swap_perm hi h2)⟩
/-- A rise, and a sinking behind it. -/
def Settle (l : List Tm) (i : Nat) (r : List Tm) : Prop := ∃ m, Rise l i m ∧ Sink m i r
theorem settle_heap {l r : List Tm} {i : Nat} (hs : Settle l i r) (hi : i < l.length) (h : H1 l i) (g : GG l i) : HeapL r ∧ r.Perm l := by
  obtain ⟨m, h1, h2⟩ := hs
  obtain ⟨d, p⟩ := rise_settle h1 hi h g
  obtain ⟨a, b⟩ := sink_down h2 (by rw [p.length_eq]; exact hi) d
  exact ⟨a, b.trans p⟩

/-! ### The heap's calls -/
theorem heapOk.heap {l : List Tm} (h : heapOk l) : HeapL l := fun j hj hl => (h.2 j hl).2.1 hj
theorem heapOk_of {l : List Tm} (h1 : l.length ≤ 256) (h2 : ∀ t ∈ l, mayT t) (h3 : HeapL l) (h4 : NoTwo l) : heapOk l := by
  refine ⟨h1, fun i hi => ⟨?_, fun h0 => h3 i h0 hi, fun j hj => ?_⟩⟩
  · rw [ith_get hi]; exact h2 _ (List.getElem_mem hi)
  · unfold NoTwo at h4
    rw [List.nodup_iff_pairwise_ne, List.pairwise_iff_getElem] at h4
    have := h4 j i (by rw [List.length_map]; omega) (by rw [List.length_map]; exact hi) hj
    rw [List.getElem_map, List.getElem_map] at this
    unfold jA
    rw [ith_get (by omega), ith_get hi]
    exact this
theorem ith_app_lt {l : List Tm} {x : Tm} {j : Nat} (h : j < l.length) : ith (l ++ [x]) j = ith l j := by
  rw [ith_get (by rw [List.length_append]; omega), ith_get h, List.getElem_append_left h]
theorem add_heap {l r : List Tm} {t : Tm} (h : heapOk l) (ht : mayT t) (hn : ¬ hasId l t.2) (hl : l.length ≠ 256) (hr : Rise (l ++ [t]) l.length r) : heapOk r ∧ r.Perm (t :: l) := by
  have hlen : (l ++ [t]).length = l.length + 1 := by simp
  have a : H1 (l ++ [t]) l.length := fun j hj hjl hne hp => by
    rw [hlen] at hjl
    have := par_lt hj
    rw [ith_app_lt (by omega), ith_app_lt (by omega)]
    exact h.heap j hj (by omega)
  have g : GG (l ++ [t]) l.length := fun _ j hj hjl hp => by
    rw [hlen] at hjl
    have := par_lt hj
    omega
  obtain ⟨d, p⟩ := rise_settle hr (by omega) a g
  have p2 : r.Perm (t :: l) := p.trans (List.perm_append_comm)
  have hrl : r.length = l.length + 1 := by rw [p.length_eq, hlen]
  refine ⟨heapOk_of (by have := h.1; omega) (fun x hx => ?_) (fun j hj hjl => d.1 j hj hjl (by have := par_lt hj; omega)) ?_, p2⟩
  · rcases List.mem_cons.1 (p2.mem_iff.1 hx) with rfl | h1
    · exact ht
    · exact h.may h1
  · rw [noTwo_perm p2]
    unfold NoTwo
    rw [List.map_cons, List.nodup_cons]
    exact ⟨fun q => hn (hasId_iff.2 q), h.noTwo⟩
theorem perm_erase {l : List Tm} {i : Nat} (hi : i < l.length) : l.Perm (l[i] :: l.eraseIdx i) := by
  rw [List.eraseIdx_eq_take_drop_succ]
  have e : l = l.take i ++ l[i] :: l.drop (i + 1) := by rw [← List.drop_eq_getElem_cons hi, List.take_append_drop]
  exact (List.Perm.of_eq e).trans List.perm_middle
theorem erase_id {l : List Tm} (h : NoTwo l) {i : Nat} (hi : i < l.length) {id : Int} (he : jA l i = id) : (l.eraseIdx i).Perm (lessId l id) := by
  have h1 := perm_erase hi
  have h2 : (lessId l id).Perm (lessId (l[i] :: l.eraseIdx i) id) := lessId_perm h1 id
  unfold jA at he
  rw [ith_get hi] at he
  have hnd : NoTwo (l[i] :: l.eraseIdx i) := (noTwo_perm h1).1 h
  unfold NoTwo at hnd
  rw [List.map_cons, List.nodup_cons] at hnd
  have h3 : lessId (l[i] :: l.eraseIdx i) id = l.eraseIdx i := by
    unfold lessId
    rw [List.filter_cons, if_neg (by simp [he])]
    rw [List.filter_eq_self]
    intro t ht
    have : t.2 ≠ id := fun q => hnd.1 (by rw [he, ← q]; exact List.mem_map_of_mem ht)
    simpa using this
  rw [h3] at h2
  exact h2.symm
/-- The last one put where place i was, and cut. -/
def wout (l : List Tm) (i : Nat) : List Tm := (l.set i (ith l (l.length - 1))).take (l.length - 1)
theorem wout_len {l : List Tm} (i : Nat) : (wout l i).length = l.length - 1 := by simp [wout]
theorem ith_wout {l : List Tm} {i j : Nat} (hi : i < l.length) (hj : j < l.length - 1) : ith (wout l i) j = if i = j then ith l (l.length - 1) else ith l j := by
  unfold wout
  rw [ith_take hj, ith_set _ _ _ _ hi]
theorem wout_perm {l : List Tm} {i : Nat} (hi : i < l.length) : (wout l i).Perm (l.eraseIdx i) := by
  have hlast : l.length - 1 < l.length := by omega
  have h1 : (l.set i (ith l (l.length - 1))).Perm (ith l (l.length - 1) :: l.eraseIdx i) := by
    have := perm_erase (l := l.set i (ith l (l.length - 1))) (i := i) (by simpa using hi)
    rw [List.getElem_set_self, List.eraseIdx_set_eq] at this
    exact this
  have h2 : (l.set i (ith l (l.length - 1))) = wout l i ++ [ith l (l.length - 1)] := by
    have e := List.take_append_drop (l.length - 1) (l.set i (ith l (l.length - 1)))
    rw [← e]
    unfold wout
    congr 1
    rw [List.drop_eq_getElem_cons (by rw [List.length_set]; omega)]
    rw [List.drop_eq_nil_of_le (by rw [List.length_set]; omega)]
    congr 1
    have := ith_set l i (ith l (l.length - 1)) (l.length - 1) hi
    rw [ith_get (by rw [List.length_set]; omega)] at this
    rw [this]
    split <;> rfl
  rw [h2] at h1
  exact (List.perm_cons _).1 ((List.perm_append_comm (l₁ := [ith l (l.length - 1)])).trans h1)
theorem wout_heap {l r : List Tm} {i : Nat} (h : heapOk l) (hi : i < l.length) (hr : if i < l.length - 1 then Settle (wout l i) i r else r = wout l i) : heapOk r ∧ r.Perm (l.eraseIdx i) := by
  have hh := h.heap
  have key : HeapL r ∧ r.Perm (wout l i) := by
    split at hr
    · rename_i h1
      refine settle_heap hr (by rw [wout_len]; exact h1) (fun j hj hjl hne hp => ?_) (fun h0 j hj hjl hp => ?_)
      · rw [wout_len] at hjl
        have := par_lt hj
        rw [ith_wout hi (by omega), ith_wout hi hjl, if_neg (by omega), if_neg (by omega)]
        exact hh j hj (by omega)
      · rw [wout_len] at hjl
        have := par_lt hj
        have := par_lt h0
        rw [ith_wout hi (by omega), ith_wout hi hjl, if_neg (by omega), if_neg (by omega)]
        exact hh.gg i h0 j hj (by omega) hp
    · rename_i h1
      subst hr
      refine ⟨fun j hj hjl => ?_, List.Perm.refl _⟩
      rw [wout_len] at hjl
      have := par_lt hj
      rw [ith_wout hi (by omega), ith_wout hi hjl, if_neg (by omega), if_neg (by omega)]
      exact hh j hj (by omega)
  have p := key.2.trans (wout_perm hi)
  have p2 := perm_erase hi
  refine ⟨heapOk_of ?_ (fun x hx => h.may ?_) key.1 ?_, p⟩
  · rw [p.length_eq, List.length_eraseIdx]; have := h.1; split <;> omega
  · exact p2.mem_iff.2 (List.mem_cons_of_mem _ (p.mem_iff.1 hx))
  · rw [noTwo_perm p]
    have := (noTwo_perm p2).1 h.noTwo
    unfold NoTwo at this ⊢
    rw [List.map_cons, List.nodup_cons] at this
    exact this.2
theorem reset_heap {l r : List Tm} {i : Nat} (h : heapOk l) (hi : i < l.length) {x : Tm} (hx : mayT x) (hid : x.2 = jA l i) (hr : Settle (l.set i x) i r) : heapOk r ∧ r.Perm (x :: l.eraseIdx i) := by
  have hh := h.heap
  have key : HeapL r ∧ r.Perm (l.set i x) := by
    refine settle_heap hr (by rw [List.length_set]; exact hi) (fun j hj hjl hne hp => ?_) (fun h0 j hj hjl hp => ?_)
    · rw [List.length_set] at hjl
      rw [ith_set _ _ _ _ hi, ith_set _ _ _ _ hi, if_neg (by omega), if_neg (by omega)]
      exact hh j hj hjl
    · rw [List.length_set] at hjl
      have := par_lt hj
      have := par_lt h0
      rw [ith_set _ _ _ _ hi, ith_set _ _ _ _ hi, if_neg (by omega), if_neg (by omega)]
      exact hh.gg i h0 j hj hjl hp
  have h1 : (l.set i x).Perm (x :: l.eraseIdx i) := by
    have := perm_erase (l := l.set i x) (i := i) (by simpa using hi)
    rw [List.getElem_set_self, List.eraseIdx_set_eq] at this
    exact this
  have p := key.2.trans h1
  have p2 := perm_erase hi
  have hid2 : x.2 = l[i].2 := by rw [hid, jA, ith_get hi]
  refine ⟨heapOk_of ?_ (fun t ht => ?_) key.1 ?_, p⟩
  · rw [key.2.length_eq, List.length_set]; exact h.1
  · rcases List.mem_cons.1 (p.mem_iff.1 ht) with rfl | h3
    · exact hx
    · exact h.may (p2.mem_iff.2 (List.mem_cons_of_mem _ h3))
  · rw [noTwo_perm p]
    have := (noTwo_perm p2).1 h.noTwo
    unfold NoTwo at this ⊢
    rw [List.map_cons, List.nodup_cons] at this ⊢
    rw [hid2]
    exact this

end Go.Proofs.Ytjamoafihmcmeaa

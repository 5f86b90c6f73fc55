/-
  Layer 16: mathematics of the laws: marks, counts, whom one asks.
-/
import Derived.Test.YtljfinfjchkphaaPkf
namespace Go.Proofs.Ytljfinfjchkphaa
open Go.RowKit

theorem Try.boolInfo : (Try.prog.info? 4).map (fun i => (i.zero, i.size, i.bytes)) = some (some (.bool false), 1, 1) := by kernel_rfl

/-- Which numbers were met in a list. -/
def marks (n : Nat) (l : List Int) : List Bool := (List.range n).map fun (j : Nat) => decide ((j : Int) ∈ l)

theorem marks_len (n : Nat) (l : List Int) : (marks n l).length = n := by simp [marks]
theorem marks_nil (n : Nat) : marks n [] = List.replicate n false := by
  refine List.ext_getElem (by simp [marks]) fun i h1 h2 => ?_
  simp [marks]
theorem marks_at {n : Nat} {l : List Int} {j : Nat} (hj : j < n) (h : (j : Int) ∉ l) : bth (marks n l) j = false := by
  rw [bth_get (by rw [marks_len]; exact hj)]
  simpa [marks] using h
theorem marks_set {n : Nat} {l : List Int} {j : Nat} : (marks n l).set j true = marks n (l ++ [(j : Int)]) := by
  refine List.ext_getElem (by simp [marks]) fun i h1 h2 => ?_
  rw [List.getElem_set]
  by_cases h : j = i
  · subst h; simp [marks]
  · rw [if_neg h]
    have h' : ¬ (i : Int) = (j : Int) := by omega
    simp [marks, h']
theorem fresh {l : List Int} (hd : l.Nodup) {k : Nat} (h : k < l.length) : nth l k ∉ l.take k := by
  intro hm
  obtain ⟨j, hj, he⟩ := List.mem_iff_getElem.1 hm
  rw [List.length_take] at hj
  rw [List.getElem_take, nth_get h] at he
  exact List.pairwise_iff_getElem.1 (List.nodup_iff_pairwise_ne.1 hd) j k (by omega) h (by omega) he

/-- How many of the draws below n came to each weight. -/
def cnt (ws : List Int) (n : Int) : List Int := (List.range ws.length).map fun i => min (max (n - pre ws i) 0) (nth ws i)

theorem cnt_len (ws : List Int) (n : Int) : (cnt ws n).length = ws.length := by simp [cnt]
theorem cnt_nth {ws : List Int} {n : Int} {i : Nat} (h : i < ws.length) : nth (cnt ws n) i = min (max (n - pre ws i) 0) (nth ws i) := by
  rw [nth_get (by rw [cnt_len]; exact h)]
  simp [cnt]
theorem nonneg_nth {ws : List Int} (h : ∀ x ∈ ws, 0 ≤ x) {i : Nat} (hi : i < ws.length) : 0 ≤ nth ws i := by
  rw [nth_get hi]; exact h _ (List.getElem_mem _)
theorem pre_nonneg {ws : List Int} (h : ∀ x ∈ ws, 0 ≤ x) {i : Nat} (hi : i ≤ ws.length) : 0 ≤ pre ws i := by
  have := pre_mono h (j := 0) (k := i) (by omega) hi
  rwa [pre_zero] at this
theorem cnt_zero {ws : List Int} (h : ∀ x ∈ ws, 0 ≤ x) : cnt ws 0 = List.replicate ws.length 0 := by
  refine ext_nth (by simp [cnt]) fun i hi => ?_
  rw [cnt_len] at hi
  have h1 := nonneg_nth h hi
  have h2 := pre_nonneg h (i := i) (by omega)
  have h3 : nth (List.replicate ws.length (0 : Int)) i = 0 := by rw [nth_get (by simpa using hi)]; simp
  rw [cnt_nth hi, h3]
  omega
theorem cnt_all {ws : List Int} (h : ∀ x ∈ ws, 0 ≤ x) : cnt ws ws.sum = ws := by
  refine ext_nth (cnt_len _ _) fun i hi => ?_
  rw [cnt_len] at hi
  have h1 := nonneg_nth h hi
  have h2 := pre_mono h (j := i + 1) (k := ws.length) (by omega) (by omega)
  rw [pre_all, pre_succ hi] at h2
  rw [cnt_nth hi]
  omega
theorem cnt_step {ws : List Int} (h : ∀ x ∈ ws, 0 ≤ x) {n : Int} (h0 : 0 ≤ n) (h1 : n < ws.sum) : (cnt ws n).set (pick ws n) (nth (cnt ws n) (pick ws n) + 1) = cnt ws (n + 1) := by
  obtain ⟨k1, k2, k3⟩ := pick_place h0 h1
  refine ext_nth (by simp [cnt]) fun i hi => ?_
  have hi' : i < ws.length := by simpa [cnt] using hi
  rw [nth_set _ _ _ _ (by rw [cnt_len]; exact hi')]
  rw [pre_succ k1] at k3
  by_cases he : pick ws n = i
  · subst he
    rw [if_pos rfl, cnt_nth hi', cnt_nth hi']
    omega
  · rw [if_neg he, cnt_nth hi', cnt_nth hi']
    have hn := nonneg_nth h hi'
    rcases Nat.lt_or_ge i (pick ws n) with h2 | h2
    · have h4 := pre_mono h (j := i + 1) (k := pick ws n) (by omega) (by omega)
      rw [pre_succ hi'] at h4
      omega
    · have h4 := pre_mono h (j := pick ws n + 1) (k := i) (by omega) (by omega)
      rw [pre_succ k1] at h4
      omega

theorem draw_split (n : Nat) : drawAt [(n : Int) / 256, (n : Int) % 256] 0 = (n : Int) := by
  have e : drawAt [(n : Int) / 256, (n : Int) % 256] 0 = 256 * ((n : Int) / 256) + (n : Int) % 256 := rfl
  rw [e]
  omega

theorem weightE_small {ws : List Int} (hn : ws.length ≤ 12) (h : ∀ x ∈ ws, 0 ≤ x ∧ x ≤ 40) : weightE ws = if ws.sum = 0 then 5 else 0 := by
  have h2 : ∀ x ∈ ws, 0 ≤ x ∧ x ≤ 65536 := fun x hx => by have := h x hx; omega
  rw [weightE_fine (by omega) h2, if_neg]
  have h3 : ∀ k, k ≤ ws.length → pre ws k ≤ 40 * (k : Int) := by
    intro k
    induction k with
    | zero => intro _; rw [pre_zero]; omega
    | succ k ih =>
      intro hk
      have h4 := ih (by omega)
      have h5 : nth ws k ≤ 40 := by rw [nth_get (by omega)]; exact (h _ (List.getElem_mem _)).2
      rw [pre_succ (by omega)]
      omega
  have h4 := h3 ws.length (Nat.le_refl _)
  rw [pre_all] at h4
  omega


theorem but_nodupPk {l : List Int} (h : l.Nodup) (x : Int) : (butPk l x).Nodup := h.filter _
theorem but_oncePk : ∀ {l : List Int} {x : Int}, l.Nodup → x ∈ l → (butPk l x).length + 1 = l.length
  | [], x, _, h => by cases h
  | y :: ys, x, hd, h => by
    have hd' := List.nodup_cons.1 hd
    by_cases e : y = x
    · subst e
      have : butPk (y :: ys) y = butPk ys y := by simp [butPk]
      rw [this, but_nonePk hd'.1]
      rfl
    · have h2 : x ∈ ys := by
        rcases List.mem_cons.1 h with h | h
        · exact absurd h.symm e
        · exact h
      have : butPk (y :: ys) x = y :: butPk ys x := by simp [butPk, e]
      rw [this, List.length_cons, List.length_cons, but_oncePk hd'.2 h2]

theorem find_congrPk {f g : Int → Bool} : ∀ {l : List Int}, (∀ x ∈ l, f x = g x) → l.find? f = l.find? g
  | [], _ => rfl
  | x :: xs, h => by
    have h1 : f x = g x := h x (by simp)
    have h2 := find_congrPk (l := xs) (fun y hy => h y (by simp [hy]))
    rw [List.find?_cons, List.find?_cons, h1, h2]
theorem steal_samePk {bs : List Int} {N n : Nat} {hs os : List Int} {p me : Int} (hn : negPk hs = negPk os) (h : ∀ j, j < n → hasPk hs (j : Int) = hasPk os (j : Int)) : stealPk bs N hs n p me = stealPk bs N os n p me := by
  unfold stealPk
  rw [hn, find_congrPk (f := hasPk hs) (g := hasPk os)]
  intro x hx
  have := order_mem (but_memPk.1 hx).1
  obtain ⟨j, rfl⟩ := Int.eq_ofNat_of_zero_le this.1
  exact h j (by omega)

/-- Others that have something just where these have. -/
def othPk (hs ms : List Int) (n k : Nat) : List Int := (List.range n).map fun j => if j < k ∧ 0 < nth hs j then max (nth ms j) 1 else 0
theorem othPk_len (hs ms : List Int) (n k : Nat) : (othPk hs ms n k).length = n := by simp [othPk]
theorem othPk_at {hs ms : List Int} {n k j : Nat} (h : j < n) : nth (othPk hs ms n k) j = if j < k ∧ 0 < nth hs j then max (nth ms j) 1 else 0 := by
  rw [nth_get (by rw [othPk_len]; exact h)]
  simp [othPk]
theorem othPk_0 (hs ms : List Int) (n : Nat) : othPk hs ms n 0 = List.replicate n 0 := by
  refine ext_nth (by simp [othPk]) fun i h => ?_
  rw [othPk_len] at h
  rw [othPk_at h, if_neg (by omega)]
  simp [nth, List.getD, h]
theorem othPk_no {hs ms : List Int} {n k : Nat} (h : ¬ 0 < nth hs k) : othPk hs ms n (k + 1) = othPk hs ms n k := by
  refine ext_nth (by rw [othPk_len, othPk_len]) fun i hi => ?_
  rw [othPk_len] at hi
  rw [othPk_at hi, othPk_at hi]
  by_cases e : i = k
  · subst e
    rw [if_neg (fun q => h q.2), if_neg (fun q => h q.2)]
  · by_cases q : i < k ∧ 0 < nth hs i
    · rw [if_pos q, if_pos ⟨by omega, q.2⟩]
    · rw [if_neg q, if_neg (fun r => q ⟨by omega, r.2⟩)]
theorem othPk_yes {hs ms : List Int} {n k : Nat} (h : 0 < nth hs k) : othPk hs ms n (k + 1) = (othPk hs ms n k).set k (max (nth ms k) 1) := by
  refine ext_nth (by rw [List.length_set, othPk_len, othPk_len]) fun i hi => ?_
  rw [othPk_len] at hi
  rw [nth_set _ _ _ _ (by rw [othPk_len]; exact hi), othPk_at hi, othPk_at hi]
  by_cases e : k = i
  · subst e
    rw [if_pos ⟨by omega, h⟩, if_pos rfl]
  · rw [if_neg e]
    by_cases q : i < k ∧ 0 < nth hs i
    · rw [if_pos q, if_pos ⟨by omega, q.2⟩]
    · rw [if_neg q, if_neg (fun r => q ⟨by omega, r.2⟩)]
theorem oth_stealPk {bs : List Int} {N n : Nat} {hs ms : List Int} {p me : Int} (hl : hs.length = n) (h : ∀ j, j < n → ¬ nth hs j < 0) : stealPk bs N (othPk hs ms n n) n p me = stealPk bs N hs n p me := by
  refine steal_samePk ?_ fun j hj => ?_
  · rw [negPk_no (fun j hj => ?_), negPk_no (fun j hj => h j (by omega))]
    rw [othPk_len] at hj
    rw [othPk_at hj]
    split <;> omega
  · unfold hasPk
    rw [Int.toNat_natCast, othPk_at hj]
    by_cases q : 0 < nth hs j
    · rw [if_pos ⟨hj, q⟩, decide_eq_true q, decide_eq_true (by omega)]
    · rw [if_neg (fun r => q r.2), decide_eq_false q, decide_eq_false (by omega)]

end Go.Proofs.Ytljfinfjchkphaa

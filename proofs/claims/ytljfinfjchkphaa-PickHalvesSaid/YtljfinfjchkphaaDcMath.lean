/-
  Plain mathematics of layer 3, over no program: orders drawn by octets, and places by weights.
-/
import Derived.Test.YtljfinfjchkphaaOct
import Derived.Test.YtljfinfjchkphaaKit
namespace Go.Proofs.Ytljfinfjchkphaa
open Go.RowKit

/-- The number of two octets from p on: behind the last one an octet is 0. -/
def drawAt (bs : List Int) (p : Nat) : Int := 256 * nth bs p + nth bs (p + 1)

theorem nth_min {bs : List Int} {p n : Nat} (hl : bs.length = n) (hp : p ≤ n) : nth bs (min (p + 1) n) = nth bs (p + 1) := by
  rcases Nat.lt_or_ge p n with h | h
  · rw [Nat.min_eq_left (by omega)]
  · rw [Nat.min_eq_right (by omega), nth_beyond (by omega), nth_beyond (by omega)]

theorem nth_end {bs : List Int} {n : Nat} (hl : bs.length = n) : nth bs n = 0 := nth_beyond (by omega)

theorem draw_bd {bs : List Int} (h : ∀ z ∈ bs, Oct z) (p : Nat) : 0 ≤ drawAt bs p ∧ drawAt bs p ≤ 65535 := by
  have o : ∀ j, Oct (nth bs j) := fun j => by
    rcases Nat.lt_or_ge j bs.length with hj | hj
    · rw [nth_get hj]; exact h _ (List.getElem_mem hj)
    · rw [nth_beyond hj]; unfold Oct; omega
  have h1 := o p
  have h2 := o (p + 1)
  unfold Oct at h1 h2
  unfold drawAt
  omega

theorem draw_end {bs : List Int} {p : Nat} (h : bs.length ≤ p) : drawAt bs p = 0 := by
  unfold drawAt
  rw [nth_beyond h, nth_beyond (by omega)]
  rfl

theorem nth_behind (cs bs : List Int) (p : Nat) : nth (cs ++ bs) (cs.length + p) = nth bs p := by
  simp [nth, List.getD, List.getElem?_append_right]

theorem draw_behind (cs bs : List Int) (p : Nat) : drawAt (cs ++ bs) (cs.length + p) = drawAt bs p := by
  unfold drawAt
  rw [nth_behind, Nat.add_assoc, nth_behind]

/-- 0 to n less 1. -/
def upto (n : Nat) : List Int := (List.range n).map fun (k : Nat) => (k : Int)

theorem upto_len (n : Nat) : (upto n).length = n := by simp [upto]

/-- Two places have changed what stands there. -/
def swap (l : List Int) (i j : Nat) : List Int := (l.set i (nth l j)).set j (nth l i)

theorem swap_len (l : List Int) (i j : Nat) : (swap l i j).length = l.length := by simp [swap]

theorem swap_perm {l : List Int} {i j : Nat} (hi : i < l.length) (hj : j < l.length) : (swap l i j).Perm l := by
  unfold swap
  rw [nth_get hi, nth_get hj]
  exact List.set_set_perm hi hj

/-- From place i down to 1 what stands there changes places with what stands at one that is drawn; q octets were taken before. -/
def shuf (bs : List Int) (q : Nat) : Nat → List Int → List Int
  | 0, l => l
  | i + 1, l => shuf bs (min (q + 2) bs.length) i (swap l (i + 1) (drawAt bs q % ((i : Int) + 2)).toNat)

/-- The order that is drawn. -/
def orderOf (bs : List Int) (p n : Nat) : List Int := shuf bs p (n - 1) (upto n)

theorem place_lt (bs : List Int) (q i : Nat) : (drawAt bs q % ((i : Int) + 2)).toNat < i + 2 ∧ 0 ≤ drawAt bs q % ((i : Int) + 2) := by
  have h1 := Int.emod_nonneg (drawAt bs q) (b := (i : Int) + 2) (by omega)
  have h2 := Int.emod_lt_of_pos (drawAt bs q) (b := (i : Int) + 2) (by omega)
  omega

theorem shuf_len (bs : List Int) : ∀ (i q : Nat) (l : List Int), (shuf bs q i l).length = l.length
  | 0, _, _ => rfl
  | i + 1, q, l => by rw [shuf, shuf_len, swap_len]

theorem shuf_perm (bs : List Int) : ∀ (i q : Nat) (l : List Int), (i = 0 ∨ i < l.length) → (shuf bs q i l).Perm l
  | 0, _, _, _ => .refl _
  | i + 1, q, l, h => by
    rw [shuf]
    have hp := place_lt bs q i
    exact (shuf_perm bs i _ _ (by rw [swap_len]; omega)).trans (swap_perm (by omega) (by omega))

theorem order_len (bs : List Int) (p n : Nat) : (orderOf bs p n).length = n := by rw [orderOf, shuf_len, upto_len]

theorem order_perm (bs : List Int) (p n : Nat) : (orderOf bs p n).Perm (upto n) :=
  shuf_perm bs _ _ _ (by rw [upto_len]; omega)

theorem upto_nodup (n : Nat) : (upto n).Nodup := by
  unfold upto
  rw [List.nodup_iff_pairwise_ne, List.pairwise_map]
  exact (List.nodup_iff_pairwise_ne.1 (List.nodup_range (n := n))).imp (fun {a b} h e => h (by omega))

theorem upto_mem {n : Nat} {x : Int} (h : x ∈ upto n) : 0 ≤ x ∧ x < n := by
  obtain ⟨k, hk, rfl⟩ := List.mem_map.1 h
  have := List.mem_range.1 hk
  omega

theorem order_nodup (bs : List Int) (p n : Nat) : (orderOf bs p n).Nodup := (order_perm bs p n).nodup_iff.2 (upto_nodup n)
theorem order_mem {bs : List Int} {p n : Nat} {x : Int} (h : x ∈ orderOf bs p n) : 0 ≤ x ∧ x < n := upto_mem ((order_perm bs p n).mem_iff.1 h)

theorem shuf_behind (cs bs : List Int) : ∀ (i q : Nat) (l : List Int), q ≤ bs.length → shuf (cs ++ bs) (cs.length + q) i l = shuf bs q i l
  | 0, _, _, _ => rfl
  | i + 1, q, l, h => by
    rw [shuf, shuf, draw_behind]
    have e : min (cs.length + q + 2) (cs ++ bs).length = cs.length + min (q + 2) bs.length := by rw [List.length_append]; omega
    rw [e]
    exact shuf_behind cs bs i _ _ (by omega)

theorem order_behind (cs bs : List Int) (n : Nat) : orderOf (cs ++ bs) cs.length n = orderOf bs 0 n := by
  have := shuf_behind cs bs (n - 1) 0 (upto n) (by omega)
  exact this

/-- What the weights up to k are together. -/
def pre (ws : List Int) (k : Nat) : Int := (ws.take k).sum

theorem pre_zero (ws : List Int) : pre ws 0 = 0 := by simp [pre]
theorem pre_succ {ws : List Int} {k : Nat} (h : k < ws.length) : pre ws (k + 1) = pre ws k + nth ws k := by
  unfold pre
  rw [List.take_succ_eq_append_getElem h, List.sum_append, nth_get h]
  simp
theorem pre_all (ws : List Int) : pre ws ws.length = ws.sum := by simp [pre]
theorem pre_mono {ws : List Int} (h : ∀ x ∈ ws, 0 ≤ x) {j : Nat} : ∀ {k : Nat}, j ≤ k → k ≤ ws.length → pre ws j ≤ pre ws k
  | 0, hj, _ => by obtain rfl : j = 0 := by omega
                   exact Int.le_refl _
  | k + 1, hj, hk => by
    rcases Nat.lt_or_ge j (k + 1) with h1 | h1
    · have := pre_mono h (j := j) (k := k) (by omega) (by omega)
      rw [pre_succ (by omega)]
      have h2 : 0 ≤ nth ws k := by rw [nth_get (by omega)]; exact h _ (List.getElem_mem _)
      omega
    · obtain rfl : j = k + 1 := by omega
      exact Int.le_refl _
theorem pre_bd {ws : List Int} (h : ∀ x ∈ ws, 0 ≤ x ∧ x ≤ 65536) : ∀ {k : Nat}, k ≤ ws.length → 0 ≤ pre ws k ∧ pre ws k ≤ 65536 * (k : Int)
  | 0, _ => by rw [pre_zero]; omega
  | k + 1, hk => by
    have h1 := pre_bd h (k := k) (by omega)
    have h2 : 0 ≤ nth ws k ∧ nth ws k ≤ 65536 := by rw [nth_get (by omega)]; exact h _ (List.getElem_mem _)
    rw [pre_succ (by omega)]
    omega

/-- k is the first place at which the weights up to it are more than n. -/
def Place (ws : List Int) (n : Int) (k : Nat) : Prop := k < ws.length ∧ pre ws k ≤ n ∧ n < pre ws (k + 1)

theorem Place.uniq {ws : List Int} (h : ∀ x ∈ ws, 0 ≤ x) {n : Int} {j k : Nat} (hj : Place ws n j) (hk : Place ws n k) : j = k := by
  rcases Nat.lt_trichotomy j k with h1 | h1 | h1
  · have := pre_mono h (j := j + 1) (k := k) (by omega) (by have := hk.1; omega)
    have := hj.2.2
    have := hk.2.1
    omega
  · exact h1
  · have := pre_mono h (j := k + 1) (k := j) (by omega) (by have := hj.1; omega)
    have := hk.2.2
    have := hj.2.1
    omega

theorem Place.there {ws : List Int} {n : Int} (h0 : 0 ≤ n) : ∀ (m : Nat), m ≤ ws.length → n < pre ws m → ∃ k, Place ws n k
  | 0, _, h => by rw [pre_zero] at h; omega
  | m + 1, hm, h => by
    by_cases h1 : n < pre ws m
    · exact Place.there h0 m (by omega) h1
    · exact ⟨m, by omega, by omega, h⟩

/-- The place that n comes to. -/
def pick : List Int → Int → Nat
  | [], _ => 0
  | x :: xs, n => if n < x then 0 else pick xs (n - x) + 1

theorem pick_place : ∀ {ws : List Int} {n : Int}, 0 ≤ n → n < ws.sum → Place ws n (pick ws n)
  | [], n, h0, h => by simp at h; omega
  | x :: xs, n, h0, h => by
    unfold pick
    rw [List.sum_cons] at h
    by_cases h1 : n < x
    · rw [if_pos h1]
      exact ⟨by simp, by rw [pre_zero]; omega, by simp [pre]; omega⟩
    · rw [if_neg h1]
      obtain ⟨k1, k2, k3⟩ := pick_place (ws := xs) (n := n - x) (by omega) (by omega)
      refine ⟨by simp; omega, ?_, ?_⟩
      · simp only [pre, List.take_succ_cons, List.sum_cons] at k2 ⊢
        omega
      · simp only [pre, List.take_succ_cons, List.sum_cons] at k3 ⊢
        omega

theorem pick_eq {ws : List Int} (h : ∀ x ∈ ws, 0 ≤ x) {n : Int} {k : Nat} (hk : Place ws n k) : pick ws n = k := by
  have h0 := pre_mono h (j := 0) (k := k) (by omega) (by have := hk.1; omega)
  rw [pre_zero] at h0
  have h1 := pre_mono h (j := k + 1) (k := ws.length) (by have := hk.1; omega) (by omega)
  rw [pre_all] at h1
  exact (pick_place (by have := hk.2.1; omega) (by have := hk.2.2; omega)).uniq h hk

/-- What is wrong with weights: 0 if nothing is. -/
def weightE (ws : List Int) : Int :=
  if ws.length > 256 then 1 else if ∃ x ∈ ws, x < 0 ∨ 65536 < x then 1 else if 65536 < ws.sum then 4 else if ws.sum = 0 then 5 else 0

end Go.Proofs.Ytljfinfjchkphaa

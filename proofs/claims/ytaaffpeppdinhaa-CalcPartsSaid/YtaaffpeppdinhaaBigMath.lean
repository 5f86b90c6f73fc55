/-
  Numbers of sixteen parts of 16 bits, as lists: what each step of the document's answer of layer 2 does to their value. Plain mathematics: nothing here speaks of a translation.
-/
import Derived.Test.YtaaffpeppdinhaaBase
namespace Go.Proofs.Ytaaffpeppdinhaa

def val : List Int → Int
  | [] => 0
  | x :: xs => x + 65536 * val xs

theorem val_append (xs ys : List Int) : val (xs ++ ys) = val xs + 65536 ^ xs.length * val ys := by
  induction xs with
  | nil => simp [val]
  | cons x xs ih =>
    simp only [List.cons_append, val, ih, List.length_cons, Int.pow_succ]
    rw [Int.mul_add, ← Int.mul_assoc, Int.mul_comm 65536 (65536 ^ xs.length)]
    omega

theorem val_set {L : List Int} {j : Nat} (h : j < L.length) (v : Int) : val (L.set j v) = val L + (v - nth L j) * 65536 ^ j := by
  induction L generalizing j with
  | nil => simp at h
  | cons x xs ih =>
    cases j with
    | zero => simp [val, nth]; omega
    | succ j =>
      have hj : j < xs.length := by simpa using h
      have e : nth (x :: xs) (j + 1) = nth xs j := by simp [nth]
      simp only [List.set_cons_succ, val, ih hj, e, Int.pow_succ]
      rw [Int.mul_add, ← Int.mul_assoc, Int.mul_comm (65536 ^ j) 65536, ← Int.mul_assoc, Int.mul_comm _ 65536]
      omega

def pre (L : List Int) (j : Nat) : Int := val (L.take j)

theorem pre_zero (L : List Int) : pre L 0 = 0 := by simp [pre, val]

theorem pre_succ {L : List Int} {j : Nat} (h : j < L.length) : pre L (j + 1) = pre L j + nth L j * 65536 ^ j := by
  unfold pre
  rw [List.take_succ_eq_append_getElem h, val_append, nth_get h]
  simp only [val, List.length_take, Nat.min_eq_left (Nat.le_of_lt h), Int.mul_zero, Int.add_zero]
  rw [Int.mul_comm]

theorem pre_all {L : List Int} {j : Nat} (h : L.length ≤ j) : pre L j = val L := by unfold pre; rw [List.take_of_length_le h]

/-- Parts of 16 bits. -/
def Dig (L : List Int) : Prop := ∀ x ∈ L, 0 ≤ x ∧ x < 65536

theorem val_bd {L : List Int} (h : Dig L) : 0 ≤ val L ∧ val L < 65536 ^ L.length := by
  induction L with
  | nil => simp [val]
  | cons x xs ih =>
    have h1 := h x (by simp)
    have h2 := ih (fun y hy => h y (by simp [hy]))
    simp only [val, List.length_cons, Int.pow_succ]
    omega

theorem Dig.nth {L : List Int} (h : Dig L) (j : Nat) : 0 ≤ nth L j ∧ nth L j < 65536 := by
  by_cases hj : j < L.length
  · rw [nth_get hj]; exact h _ (List.getElem_mem hj)
  · simp [Go.Proofs.Ytaaffpeppdinhaa.nth, List.getD, List.getElem?_eq_none (Nat.le_of_not_lt hj)]

theorem dig_of {L : List Int} (h : ∀ j, j < L.length → 0 ≤ nth L j ∧ nth L j < 65536) : Dig L := fun x hx => by
  obtain ⟨j, hj, rfl⟩ := List.getElem_of_mem hx
  have := h j hj
  rwa [nth_get hj] at this

theorem nth_set {L : List Int} {j k : Nat} (h : j < L.length) (v : Int) : nth (L.set j v) k = if k = j then v else nth L k := by
  unfold nth
  simp only [List.getD, List.getElem?_set]
  by_cases e : k = j
  · subst e; simp [h]
  · rw [if_neg e, if_neg (fun h => e h.symm)]

/-- Where a number is below 65536^j its parts from j on play no part. -/
theorem pre_small {L : List Int} {j : Nat} (h : Dig L) (hj : j ≤ L.length) (hv : val L < 65536 ^ j) : pre L j = val L := by
  have e := val_append (L.take j) (L.drop j)
  rw [List.take_append_drop, List.length_take, Nat.min_eq_left hj] at e
  have h1 := (val_bd (L := L.take j) (fun x hx => h x (List.mem_of_mem_take hx))).1
  have h2 := (val_bd (L := L.drop j) (fun x hx => h x (List.mem_of_mem_drop hx))).1
  have hp : (0 : Int) < 65536 ^ j := Int.pow_pos (by omega)
  have h3 : val (L.drop j) = 0 := by
    by_cases hz : val (L.drop j) = 0
    · exact hz
    · have : (65536 : Int) ^ j * 1 ≤ 65536 ^ j * val (L.drop j) := Int.mul_le_mul_of_nonneg_left (by omega) (Int.le_of_lt hp)
      omega
  rw [h3] at e
  unfold pre
  omega

/-- A number is none just where all its parts are. -/
theorem val_zero {L : List Int} (h : Dig L) : val L = 0 ↔ L = List.replicate L.length 0 := by
  induction L with
  | nil => simp [val]
  | cons x xs ih =>
    have h1 := h x (by simp)
    have h2 := val_bd (L := xs) (fun y hy => h y (by simp [hy]))
    have ih := ih (fun y hy => h y (by simp [hy]))
    simp only [val, List.length_cons, List.replicate_succ, List.cons.injEq]
    constructor
    · intro hz
      exact ⟨by omega, ih.1 (by omega)⟩
    · rintro ⟨rfl, hx⟩
      rw [ih.2 hx]; omega

theorem val_replicate (n : Nat) : val (List.replicate n 0) = 0 := by
  induction n with
  | zero => rfl
  | succ n ih => simp only [List.replicate_succ, val, ih]; rfl

/-- What the double loop of a product has made. -/
def Conv (K L C : List Int) (i j : Nat) : Prop :=
  C.length = 16 ∧ (∀ t, t < 16 → 0 ≤ nth C t ∧ nth C t ≤ (8 * i + j : Nat) * 4294836225) ∧ val C = pre K i * pre L 8 + nth K i * 65536 ^ i * pre L j

theorem nth_rep (n t : Nat) : nth (List.replicate n 0) t = 0 := by
  by_cases h : t < n
  · rw [nth_get (by simpa using h)]; simp
  · simp [nth, List.getD, h]

theorem conv_zero (K L : List Int) : Conv K L (List.replicate 16 0) 0 0 := by
  refine ⟨rfl, fun t ht => ?_, by rw [val_replicate, pre_zero, pre_zero]; simp⟩
  rw [nth_rep]
  omega

theorem dig_mul {x y : Int} (hx : 0 ≤ x ∧ x < 65536) (hy : 0 ≤ y ∧ y < 65536) : 0 ≤ x * y ∧ x * y ≤ 4294836225 :=
  ⟨Int.mul_nonneg hx.1 hy.1, by have := Int.mul_le_mul (a := x) (b := y) (c := 65535) (d := 65535) (by omega) (by omega) hy.1 (by omega); omega⟩

theorem conv_step {K L C : List Int} {i j : Nat} (hK : Dig K) (hL : Dig L) (hl : L.length = 16) (hi : i < 8) (hj : j < 8) (h : Conv K L C i j) :
    Conv K L (C.set (i + j) (nth C (i + j) + nth K i * nth L j)) i (j + 1) := by
  obtain ⟨c1, c2, c3⟩ := h
  have hp := dig_mul (hK.nth i) (hL.nth j)
  refine ⟨by simpa using c1, fun t ht => ?_, ?_⟩
  · rw [nth_set (by omega)]
    have := c2 t ht
    have := c2 (i + j) (by omega)
    split <;> omega
  · rw [val_set (by omega), c3, pre_succ (L := L) (j := j) (by omega), Int.pow_add]
    have e1 : (nth C (i + j) + nth K i * nth L j - nth C (i + j)) = nth K i * nth L j := by omega
    have e2 : nth K i * nth L j * (65536 ^ i * 65536 ^ j) = nth K i * 65536 ^ i * (nth L j * 65536 ^ j) := by
      rw [Int.mul_assoc, Int.mul_assoc, ← Int.mul_assoc (nth L j), Int.mul_comm (nth L j) (65536 ^ i), Int.mul_assoc]
    rw [e1, e2, Int.mul_add]
    omega

theorem conv_row {K L C : List Int} {i : Nat} (hk : K.length = 16) (hi : i < 8) (h : Conv K L C i 8) : Conv K L C (i + 1) 0 := by
  obtain ⟨c1, c2, c3⟩ := h
  refine ⟨c1, fun t ht => ?_, ?_⟩
  · have := c2 t ht; omega
  · rw [c3, pre_succ (L := K) (j := i) (by omega), pre_zero, Int.add_mul]; simp

theorem conv_end {K L C : List Int} (h : Conv K L C 8 0) : val C = pre K 8 * pre L 8 := by
  rw [h.2.2, pre_zero]; simp

/-- How far parts have been brought below 65536, what is carried on. -/
def Carry (C : List Int) (V over : Int) (i : Nat) : Prop :=
  C.length = 16 ∧ 0 ≤ over ∧ over ≤ 549755813888 ∧ (∀ t, t < i → 0 ≤ nth C t ∧ nth C t < 65536) ∧ (∀ t, t < 16 → 0 ≤ nth C t ∧ nth C t ≤ 274869518400) ∧ val C + over * 65536 ^ i = V

theorem carry_start {C : List Int} {K L : List Int} (h : Conv K L C 8 0) : Carry C (val C) 0 0 :=
  ⟨h.1, by omega, by omega, by omega, fun t ht => by have := h.2.1 t ht; omega, by simp⟩

theorem split_over (x : Int) (i : Nat) : x * 65536 ^ i = x % 65536 * 65536 ^ i + x / 65536 * 65536 ^ (i + 1) := by
  rw [Int.pow_succ]
  have e : x / 65536 * (65536 ^ i * 65536) = 65536 * (x / 65536) * 65536 ^ i := by rw [Int.mul_comm (65536 ^ i) 65536, ← Int.mul_assoc, Int.mul_comm (x / 65536) 65536]
  rw [e, ← Int.add_mul]
  congr 1
  omega

theorem carry_step {C : List Int} {V over : Int} {i : Nat} (hi : i < 16) (h : Carry C V over i) :
    Carry (C.set i ((over + nth C i) % 65536)) V ((over + nth C i) / 65536) (i + 1) := by
  obtain ⟨c1, c2, c3, c4, c5, c6⟩ := h
  have hb := c5 i hi
  refine ⟨by simpa using c1, by omega, by omega, fun t ht => ?_, fun t ht => ?_, ?_⟩
  · rw [nth_set (by omega)]
    split
    · omega
    · exact c4 t (by omega)
  · rw [nth_set (by omega)]
    have := c5 t ht
    split <;> omega
  · rw [val_set (by omega), Int.sub_mul]
    have e := split_over (over + nth C i) i
    rw [Int.add_mul] at e
    omega

theorem carry_end {C : List Int} {V over : Int} (h : Carry C V over 16) (hV : V < 65536 ^ 16) : Dig C ∧ C.length = 16 ∧ val C = V := by
  obtain ⟨c1, c2, c3, c4, c5, c6⟩ := h
  have hd : Dig C := dig_of fun j hj => c4 j (by omega)
  have hb := (val_bd hd).1
  have h0 : over = 0 := by omega
  subst h0
  exact ⟨hd, c1, by omega⟩

/-- A sum, part by part. -/
def Plus (A B C : List Int) (over : Int) (i : Nat) : Prop :=
  C.length = 16 ∧ Dig C ∧ 0 ≤ over ∧ over ≤ 2 ∧ val C + over * 65536 ^ i = val A + pre B i

theorem plus_step {A B C : List Int} {over : Int} {i : Nat} (hB : Dig B) (hb : B.length = 16) (hi : i < 16) (h : Plus A B C over i) :
    Plus A B (C.set i ((over + (nth C i + nth B i)) % 65536)) ((over + (nth C i + nth B i)) / 65536) (i + 1) := by
  obtain ⟨c1, c2, c3, c4, c5⟩ := h
  have h1 := c2.nth i
  have h2 := hB.nth i
  refine ⟨by simpa using c1, dig_of fun t ht => ?_, by omega, by omega, ?_⟩
  · rw [nth_set (by omega)]
    have := c2.nth t
    split <;> omega
  · rw [val_set (by omega), Int.sub_mul, pre_succ (L := B) (j := i) (by omega)]
    have e := split_over (over + (nth C i + nth B i)) i
    rw [Int.add_mul, Int.add_mul] at e
    omega

theorem plus_end {A B C : List Int} {over : Int} (hb : B.length = 16) (h : Plus A B C over 16) (hV : val A + val B < 65536 ^ 16) : Dig C ∧ C.length = 16 ∧ val C = val A + val B := by
  obtain ⟨c1, c2, c3, c4, c5⟩ := h
  have hd := (val_bd c2).1
  rw [pre_all (L := B) (by omega)] at c5
  have h0 : over = 0 := by omega
  subst h0
  exact ⟨c2, c1, by omega⟩

/-- A difference, part by part. -/
def Less_ (A B C : List Int) (under : Int) (i : Nat) : Prop :=
  C.length = 16 ∧ Dig C ∧ 0 ≤ under ∧ under ≤ 1 ∧ val C - under * 65536 ^ i = val A - pre B i

theorem less_step {A B C : List Int} {under : Int} {i : Nat} (hB : Dig B) (hb : B.length = 16) (hi : i < 16) (h : Less_ A B C under i) :
    Less_ A B (C.set i ((65536 + nth C i - nth B i - under) % 65536)) (1 - (65536 + nth C i - nth B i - under) / 65536) (i + 1) := by
  obtain ⟨c1, c2, c3, c4, c5⟩ := h
  have h1 := c2.nth i
  have h2 := hB.nth i
  refine ⟨by simpa using c1, dig_of fun t ht => ?_, by omega, by omega, ?_⟩
  · rw [nth_set (by omega)]
    have := c2.nth t
    split <;> omega
  · rw [val_set (by omega), Int.sub_mul, pre_succ (L := B) (j := i) (by omega)]
    have e := split_over (65536 + nth C i - nth B i - under) i
    rw [Int.sub_mul, Int.sub_mul, Int.add_mul] at e
    have e2 : (65536 : Int) * 65536 ^ i = 65536 ^ (i + 1) := by rw [Int.pow_succ, Int.mul_comm]
    rw [Int.sub_mul]
    omega

theorem less_end {A B C : List Int} {under : Int} (hb : B.length = 16) (h : Less_ A B C under 16) (hV : val B ≤ val A) : Dig C ∧ C.length = 16 ∧ val C = val A - val B := by
  obtain ⟨c1, c2, c3, c4, c5⟩ := h
  have hd := (val_bd c2).2
  rw [c1] at hd
  rw [pre_all (L := B) (by omega)] at c5
  have h0 : under = 0 := by omega
  subst h0
  exact ⟨c2, c1, by omega⟩

/-- Of two numbers whose parts from i on are the same, the one with the greater part below is the greater one. -/
theorem more_at {A B : List Int} (hA : Dig A) (hB : Dig B) (hl : A.length = B.length) {i : Nat} (hi : i < A.length) (he : ∀ t, i < t → t < A.length → nth A t = nth B t) (hm : nth A i < nth B i) : val A < val B := by
  have eA := val_append (A.take (i + 1)) (A.drop (i + 1))
  have eB := val_append (B.take (i + 1)) (B.drop (i + 1))
  rw [List.take_append_drop, List.length_take, Nat.min_eq_left (by omega)] at eA eB
  have ed : A.drop (i + 1) = B.drop (i + 1) := by
    apply List.ext_getElem (by simp [hl])
    intro t h1 h2
    simp only [List.length_drop] at h1 h2
    have := he (i + 1 + t) (by omega) (by omega)
    rw [nth_get (by omega), nth_get (by omega)] at this
    simpa using this
  rw [ed] at eA
  have pA := pre_succ (L := A) (j := i) hi
  have pB := pre_succ (L := B) (j := i) (by omega)
  unfold pre at pA pB
  have bA := val_bd (L := A.take i) (fun x hx => hA x (List.mem_of_mem_take hx))
  have bB := val_bd (L := B.take i) (fun x hx => hB x (List.mem_of_mem_take hx))
  rw [List.length_take, Nat.min_eq_left (by omega)] at bA bB
  have hp : (0 : Int) < 65536 ^ i := Int.pow_pos (by omega)
  have hm' : (nth A i + 1) * 65536 ^ i ≤ nth B i * 65536 ^ i := Int.mul_le_mul_of_nonneg_right (by omega) (Int.le_of_lt hp)
  rw [Int.add_mul] at hm'
  omega

theorem same_all {A B : List Int} (hl : A.length = B.length) (he : ∀ t, t < A.length → nth A t = nth B t) : val A = val B := by
  have : A = B := List.ext_getElem hl fun t h1 h2 => by
    have := he t h1
    rwa [nth_get h1, nth_get h2] at this
  rw [this]

end Go.Proofs.Ytaaffpeppdinhaa

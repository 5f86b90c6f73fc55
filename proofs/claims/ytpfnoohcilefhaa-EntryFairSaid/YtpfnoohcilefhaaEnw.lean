/-
  Layer 19's words: entries (three numbers each: kind, A, B), their texts, those of a kind, fairness in windows. Over no program.
-/
import Derived.Test.YtpfnoohcilefhaaInstr
import Derived.Test.YtpfnoohcilefhaaOct
namespace Go.Proofs.Ytpfnoohcilefhaa
open Go.RowKit

/-- An entry may be. -/
def mayE (x : I3) : Bool := decide ((0 ≤ x.1 ∧ x.1 ≤ 7) ∧ (0 ≤ x.2.1 ∧ x.2.1 ≤ 255) ∧ (0 ≤ x.2.2 ∧ x.2.2 ≤ 255) ∧ (x.2.2 = 0 ∨ x.1 = 1 ∨ x.1 = 4) ∧ (x.2.1 = 0 ∨ x.1 ≠ 7))
theorem mayE_iff {x : I3} : mayE x = true ↔ (0 ≤ x.1 ∧ x.1 ≤ 7) ∧ (0 ≤ x.2.1 ∧ x.2.1 ≤ 255) ∧ (0 ≤ x.2.2 ∧ x.2.2 ≤ 255) ∧ (x.2.2 = 0 ∨ x.1 = 1 ∨ x.1 = 4) ∧ (x.2.1 = 0 ∨ x.1 ≠ 7) := decide_eq_true_iff
/-- Entries may be. -/
def allE (l : List I3) : Prop := ∀ j, j < l.length → mayE (ith l j) = true
open Classical in
/-- What Check answers. -/
noncomputable def chkE19 (l : List I3) : Int := if 65536 < l.length then 3 else if allE l then 0 else 1
theorem chkE19_long {l : List I3} (h : 65536 < l.length) : chkE19 l = 3 := if_pos h
theorem chkE19_ok {l : List I3} (h : ¬ 65536 < l.length) (k : allE l) : chkE19 l = 0 := by unfold chkE19; rw [if_neg h, if_pos k]
theorem chkE19_no {l : List I3} (h : ¬ 65536 < l.length) (k : ¬ allE l) : chkE19 l = 1 := by unfold chkE19; rw [if_neg h, if_neg k]
theorem chkE19_zero {l : List I3} (h : chkE19 l = 0) : ¬ 65536 < l.length ∧ allE l := by
  unfold chkE19 at h
  split at h
  · exact absurd h (by decide)
  · split at h
    · exact ⟨‹_›, ‹_›⟩
    · exact absurd h (by decide)
/-- The texts of entries. -/
def txE : List I3 → List Int
  | [] => []
  | x :: l => x.1 :: x.2.1 :: x.2.2 :: txE l
/-- What bytes are the texts of. -/
def lsE : List Int → List I3
  | a :: b :: c :: r => (a, b, c) :: lsE r
  | _ => []
theorem txE_len : ∀ l : List I3, (txE l).length = 3 * l.length
  | [] => rfl
  | x :: l => by rw [txE]; simp only [List.length_cons]; rw [txE_len l]; omega
theorem txE_app : ∀ l m : List I3, txE (l ++ m) = txE l ++ txE m
  | [], m => rfl
  | x :: l, m => by rw [List.cons_append, txE, txE_app l m, txE]; rfl
theorem lsE_txE : ∀ l : List I3, lsE (txE l) = l
  | [] => rfl
  | x :: l => by rw [txE, lsE, lsE_txE l]
theorem txE_lsE : ∀ (n : Nat) (b : List Int), b.length = 3 * n → txE (lsE b) = b ∧ (lsE b).length = n
  | 0, b, h => by
    obtain rfl : b = [] := List.eq_nil_of_length_eq_zero h
    exact ⟨rfl, rfl⟩
  | n + 1, [], h => by simp at h
  | n + 1, [_], h => by simp at h; omega
  | n + 1, [_, _], h => by simp at h; omega
  | n + 1, x :: y :: z :: r, h => by
    obtain ⟨h1, h2⟩ := txE_lsE n r (by simp at h; omega)
    rw [lsE, txE, h1]
    exact ⟨rfl, by rw [List.length_cons, h2]⟩
theorem lsE_at : ∀ (n : Nat) (b : List Int), b.length = 3 * n → ∀ k, k < n → ith (lsE b) k = (nth b (3 * k), nth b (3 * k + 1), nth b (3 * k + 2))
  | 0, b, h, k, hk => by omega
  | n + 1, [], h, k, hk => by simp at h
  | n + 1, [_], h, k, hk => by simp at h; omega
  | n + 1, [_, _], h, k, hk => by simp at h; omega
  | n + 1, x :: y :: z :: r, h, 0, _ => rfl
  | n + 1, x :: y :: z :: r, h, k + 1, hk => by
    have ih := lsE_at n r (by simp at h; omega) k (by omega)
    rw [lsE]
    show ith (lsE r) k = _
    rw [ih]
    rfl
/-- What Write, and Read, answer. -/
noncomputable def wrR (l : List I3) : List Int × Int := if chkE19 l = 0 then (txE l, 0) else ([], chkE19 l)
open Classical in
noncomputable def rdR (b : List Int) : List I3 × Int := if 196608 < b.length then ([], 3) else if b.length % 3 ≠ 0 then ([], 2) else if allE (lsE b) then (lsE b, 0) else ([], 2)
theorem wrR_ok {l : List I3} (h : chkE19 l = 0) : wrR l = (txE l, 0) := if_pos h
theorem wrR_no {l : List I3} (h : ¬ chkE19 l = 0) : wrR l = ([], chkE19 l) := if_neg h
theorem rdR_long {b : List Int} (h : 196608 < b.length) : rdR b = ([], 3) := if_pos h
theorem rdR_odd {b : List Int} (h : ¬ 196608 < b.length) (k : b.length % 3 ≠ 0) : rdR b = ([], 2) := by unfold rdR; rw [if_neg h, if_pos k]
theorem rdR_ok {b : List Int} (h : ¬ 196608 < b.length) (k : ¬ b.length % 3 ≠ 0) (m : allE (lsE b)) : rdR b = (lsE b, 0) := by unfold rdR; rw [if_neg h, if_neg k, if_pos m]
theorem rdR_no {b : List Int} (h : ¬ 196608 < b.length) (k : ¬ b.length % 3 ≠ 0) (m : ¬ allE (lsE b)) : rdR b = ([], 2) := by unfold rdR; rw [if_neg h, if_neg k, if_neg m]
/-- What is written is read. -/
theorem read_write {l : List I3} (h : chkE19 l = 0) : rdR (txE l) = (l, 0) := by
  obtain ⟨h1, h2⟩ := chkE19_zero h
  rw [rdR_ok (by rw [txE_len]; omega) (by rw [txE_len]; omega) (by rw [lsE_txE]; exact h2), lsE_txE]
/-- What is read is, written, what stood there. -/
theorem write_read {b : List Int} (h : (rdR b).2 = 0) : chkE19 (rdR b).1 = 0 ∧ wrR (rdR b).1 = (b, 0) := by
  by_cases h1 : 196608 < b.length
  · rw [rdR_long h1] at h; exact absurd h (by decide)
  · by_cases h2 : b.length % 3 ≠ 0
    · rw [rdR_odd h1 h2] at h; exact absurd h (by decide)
    · by_cases h3 : allE (lsE b)
      · rw [rdR_ok h1 h2 h3]
        obtain ⟨e1, e2⟩ := txE_lsE (b.length / 3) b (by omega)
        have hc : chkE19 (lsE b) = 0 := chkE19_ok (by rw [e2]; omega) h3
        exact ⟨hc, by rw [wrR_ok hc, e1]⟩
      · rw [rdR_no h1 h2 h3] at h; exact absurd h (by decide)

/-- Those of a kind. -/
def onlyE (l : List I3) (k : Int) : List I3 := l.filter fun x => decide (x.1 = k)
theorem onlyE_app (l m : List I3) (k : Int) : onlyE (l ++ m) k = onlyE l k ++ onlyE m k := by simp [onlyE]
theorem onlyE_len (l : List I3) (k : Int) : (onlyE l k).length ≤ l.length := List.length_filter_le _ _
theorem onlyE_mem {l : List I3} {k : Int} {x : I3} : x ∈ onlyE l k ↔ x ∈ l ∧ x.1 = k := by simp [onlyE]
theorem onlyE_only (l : List I3) (k : Int) : onlyE (onlyE l k) k = onlyE l k := by
  unfold onlyE
  rw [List.filter_filter]
  exact List.filter_congr fun x _ => by simp
theorem ith_takeE {l : List I3} {k : Nat} (h : k < l.length) : l.take (k + 1) = l.take k ++ [ith l k] := by rw [ith_get h]; exact (List.take_append_getElem h).symm
theorem onlyE_next {l : List I3} {j : Nat} (h : j < l.length) (k : Int) : onlyE (l.take (j + 1)) k = if (ith l j).1 = k then onlyE (l.take j) k ++ [ith l j] else onlyE (l.take j) k := by
  rw [ith_takeE h, onlyE_app]
  by_cases e : (ith l j).1 = k <;> simp [onlyE, e]
/-- How many there are of the kinds below k. -/
def cntE (l : List I3) : Nat → Nat
  | 0 => 0
  | k + 1 => cntE l k + (onlyE l k).length
theorem cntE_below (l : List I3) : ∀ k : Nat, cntE l k = (l.filter fun x => decide (0 ≤ x.1 ∧ x.1 < (k : Int))).length
  | 0 => by
    have : (l.filter fun x => decide (0 ≤ x.1 ∧ x.1 < ((0 : Nat) : Int))) = [] := by
      rw [List.filter_eq_nil_iff]
      intro x _
      simp
    rw [this]; rfl
  | k + 1 => by
    rw [cntE, cntE_below l k]
    unfold onlyE
    induction l with
    | nil => rfl
    | cons x r ih =>
      simp only [List.filter_cons]
      by_cases h1 : 0 ≤ x.1 ∧ x.1 < (k : Int)
      · have h2 : ¬ x.1 = (k : Int) := by omega
        have h3 : 0 ≤ x.1 ∧ x.1 < ((k + 1 : Nat) : Int) := by omega
        simp only [decide_eq_true h1, decide_eq_false h2, decide_eq_true h3, if_true, Bool.false_eq_true, if_false, List.length_cons]
        omega
      · by_cases h2 : x.1 = (k : Int)
        · have h3 : 0 ≤ x.1 ∧ x.1 < ((k + 1 : Nat) : Int) := by omega
          simp only [decide_eq_false h1, decide_eq_true h2, decide_eq_true h3, if_true, Bool.false_eq_true, if_false, List.length_cons]
          omega
        · have h3 : ¬ (0 ≤ x.1 ∧ x.1 < ((k + 1 : Nat) : Int)) := by omega
          simp only [decide_eq_false h1, decide_eq_false h2, decide_eq_false h3, Bool.false_eq_true, if_false]
          exact ih
theorem cntE_le (l : List I3) (k : Nat) : cntE l k ≤ l.length := by rw [cntE_below]; exact List.length_filter_le _ _
theorem cntE_all {l : List I3} (h : allE l) : cntE l 8 = l.length := by
  rw [cntE_below]
  congr 1
  rw [List.filter_eq_self]
  intro x hx
  obtain ⟨j, hj, rfl⟩ : ∃ j, j < l.length ∧ ith l j = x := by
    obtain ⟨j, hj, e⟩ := List.mem_iff_getElem.1 hx
    exact ⟨j, hj, by rw [ith_get hj]; exact e⟩
  have := (mayE_iff.1 (h j hj)).1
  simp
  omega

/-! ### fairness -/
/-- Each of the workers comes in any window of so many. -/
structure FairP (st : List I3) (W wn : Nat) : Prop where
  who : ∀ j, j < st.length → 0 ≤ (ith st j).2.1 ∧ (ith st j).2.1 < (W : Int)
  met : ∀ f, f + wn ≤ st.length → ∀ v : Nat, v < W → ∃ j, f ≤ j ∧ j < f + wn ∧ (ith st j).2.1 = v
theorem FairP.more {st : List I3} {W wn wm : Nat} (h : FairP st W wn) (hm : wn ≤ wm) : FairP st W wm :=
  ⟨h.who, fun f hf v hv => by
    obtain ⟨j, h1, h2, h3⟩ := h.met f (by omega) v hv
    exact ⟨j, h1, by omega, h3⟩⟩
theorem ith_dropE {l : List I3} {k j : Nat} (h : k + j < l.length) : ith (l.drop k) j = ith l (k + j) := by
  rw [ith_get (by rw [List.length_drop]; omega), ith_get h, List.getElem_drop]
theorem ith_takeF {l : List I3} {k j : Nat} (h : j < k) (hl : j < l.length) : ith (l.take k) j = ith l j := by
  rw [ith_get (by rw [List.length_take]; omega), ith_get hl, List.getElem_take]
theorem FairP.drop {st : List I3} {W wn : Nat} (h : FairP st W wn) (c : Nat) : FairP (st.drop c) W wn :=
  ⟨fun j hj => by rw [List.length_drop] at hj; rw [ith_dropE (by omega)]; exact h.who _ (by omega), fun f hf v hv => by
    by_cases hc : c ≤ st.length
    · rw [List.length_drop] at hf
      obtain ⟨j, h1, h2, h3⟩ := h.met (c + f) (by omega) v hv
      exact ⟨j - c, by omega, by omega, by rw [ith_dropE (by omega), show c + (j - c) = j by omega]; exact h3⟩
    · rw [List.length_drop] at hf
      obtain rfl : wn = 0 := by omega
      obtain ⟨j, h1, h2, -⟩ := h.met 0 (by omega) v hv
      omega⟩
theorem FairP.take {st : List I3} {W wn : Nat} (h : FairP st W wn) (c : Nat) : FairP (st.take c) W wn :=
  ⟨fun j hj => by rw [List.length_take] at hj; rw [ith_takeF (by omega) (by omega)]; exact h.who _ (by omega), fun f hf v hv => by
    rw [List.length_take] at hf
    obtain ⟨j, h1, h2, h3⟩ := h.met f (by omega) v hv
    exact ⟨j, h1, h2, by rw [ith_takeF (by omega) (by omega)]; exact h3⟩⟩
/-- Each worker in turn. -/
theorem FairP.round {st : List I3} {W : Nat} (hW : 0 < W) (h : ∀ j, j < st.length → (ith st j).2.1 = ((j % W : Nat) : Int)) : FairP st W W :=
  ⟨fun j hj => by rw [h j hj]; have := Nat.mod_lt j hW; omega, fun f hf v hv => by
    have hr := Nat.mod_lt f hW
    by_cases hc : f % W ≤ v
    · have e : (f + (v - f % W)) % W = v := by
        have h1 := Nat.div_add_mod f W
        rw [show f + (v - f % W) = v + W * (f / W) by omega, Nat.add_mul_mod_self_left]
        exact Nat.mod_eq_of_lt hv
      exact ⟨f + (v - f % W), by omega, by omega, by rw [h _ (by omega), e]⟩
    · have e : (f + (v + W - f % W)) % W = v := by
        have h1 := Nat.div_add_mod f W
        rw [show f + (v + W - f % W) = v + W * (f / W + 1) by rw [Nat.mul_add]; omega, Nat.add_mul_mod_self_left]
        exact Nat.mod_eq_of_lt hv
      exact ⟨f + (v + W - f % W), by omega, by omega, by rw [h _ (by omega), e]⟩⟩
open Classical in
/-- What Fair answers. -/
noncomputable def fairR (l : List I3) (W wn : Int) : Bool × Int := if (1 ≤ W ∧ W ≤ 64) ∧ 1 ≤ wn then (if FairP (onlyE l 0) W.toNat wn.toNat then (true, 0) else (false, 0)) else (false, 1)
theorem fairR_no {l : List I3} {W wn : Int} (h : ¬ ((1 ≤ W ∧ W ≤ 64) ∧ 1 ≤ wn)) : fairR l W wn = (false, 1) := if_neg h
theorem fairR_yes {l : List I3} {W wn : Int} (h : (1 ≤ W ∧ W ≤ 64) ∧ 1 ≤ wn) (k : FairP (onlyE l 0) W.toNat wn.toNat) : fairR l W wn = (true, 0) := by unfold fairR; rw [if_pos h, if_pos k]
theorem fairR_bad {l : List I3} {W wn : Int} (h : (1 ≤ W ∧ W ≤ 64) ∧ 1 ≤ wn) (k : ¬ FairP (onlyE l 0) W.toNat wn.toNat) : fairR l W wn = (false, 0) := by unfold fairR; rw [if_pos h, if_neg k]
theorem fairR_only (l : List I3) (W wn : Int) : fairR (onlyE l 0) W wn = fairR l W wn := by unfold fairR; rw [onlyE_only]

end Go.Proofs.Ytpfnoohcilefhaa

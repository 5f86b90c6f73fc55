/-
  Layer 12: traces of states as plain words; slices.IndexFunc, slices.ContainsFunc; the program's Trace.
-/
import Derived.Test.YtlbmlhcphoiaeaaDoorTkd
namespace Go.Proofs.YtlbmlhcphoiaeaaDoor
open Go.RowKit

def allB (l : List Int) : Bool := l.all stB
theorem allB_iff {l : List Int} : allB l = true ↔ ∀ i, i < l.length → stB (nth l i) = true := by
  unfold allB
  rw [List.all_eq_true]
  constructor
  · intro h i hi
    rw [nth_get hi]
    exact h _ (List.getElem_mem hi)
  · intro h x hx
    obtain ⟨i, hi, rfl⟩ := List.getElem_of_mem hx
    rw [← nth_get hi]
    exact h i hi
theorem allB_no {l : List Int} {i : Nat} (hi : i < l.length) (h : stB (nth l i) = false) : allB l = false := by
  rw [← Bool.not_eq_true, allB_iff]
  intro q
  rw [q i hi] at h
  cases h

/-- How many states are a trace, if the first one may be. -/
def chnF : List Int → Nat
  | [] => 0
  | [_] => 1
  | a :: b :: r => if legB a b then chnF (b :: r) + 1 else 1
/-- The first k are a trace, and the next one, if there is one, may not follow. -/
def IsAt (l : List Int) (k : Nat) : Prop := 1 ≤ k ∧ k ≤ l.length ∧ (∀ i, i + 1 < k → legB (nth l i) (nth l (i + 1)) = true) ∧ (k < l.length → legB (nth l (k - 1)) (nth l k) = false)
theorem IsAt.unique {l : List Int} {j k : Nat} (h : IsAt l j) (q : IsAt l k) : j = k := by
  rcases Nat.lt_trichotomy j k with g | g | g
  · have a := h.2.2.2 (by have := q.2.1; omega)
    have b := q.2.2.1 (j - 1) (by have := h.1; omega)
    rw [show j - 1 + 1 = j by have := h.1; omega, a] at b
    cases b
  · exact g
  · have a := q.2.2.2 (by have := h.2.1; omega)
    have b := h.2.2.1 (k - 1) (by have := q.1; omega)
    rw [show k - 1 + 1 = k by have := q.1; omega, a] at b
    cases b
theorem nth_cons0 (a : Int) (l : List Int) : nth (a :: l) 0 = a := rfl
theorem nth_cons1 (a : Int) (l : List Int) (i : Nat) : nth (a :: l) (i + 1) = nth l i := rfl
theorem chn_at : ∀ {l : List Int}, 0 < l.length → IsAt l (chnF l)
  | [_], _ => ⟨Nat.le_refl _, Nat.le_refl _, fun i hi => by unfold chnF at hi; omega, fun h => by unfold chnF at h; simp at h⟩
  | a :: b :: r, _ => by
    have ih := chn_at (l := b :: r) (by simp)
    unfold chnF
    by_cases h : legB a b = true
    · rw [if_pos h]
      refine ⟨by omega, by simpa using ih.2.1, fun i hi => ?_, fun hk => ?_⟩
      · cases i with
        | zero => exact h
        | succ i => rw [nth_cons1, nth_cons1]; exact ih.2.2.1 i (by omega)
      · have := ih.2.2.2 (by simpa using hk)
        have e : nth (a :: b :: r) (chnF (b :: r)) = nth (b :: r) (chnF (b :: r) - 1) := by
          obtain ⟨m, hm⟩ : ∃ m, chnF (b :: r) = m + 1 := ⟨chnF (b :: r) - 1, by have := ih.1; omega⟩
          rw [hm]; rfl
        rw [Nat.add_sub_cancel, nth_cons1, e]
        exact this
    · rw [if_neg h]
      refine ⟨Nat.le_refl _, by simp, fun i hi => by omega, fun _ => ?_⟩
      simpa [nth_cons0, nth_cons1] using h

/-- Trace's answer. -/
def traceR (l : List Int) : Int × Int := if l.length = 0 then (0, 1) else if allB l = false then (0, 1) else if nth l 0 ≠ 1 then (0, 0) else (((chnF l : Nat) : Int), 0)
theorem traceR_0 {l : List Int} (h : l.length = 0) : traceR l = (0, 1) := if_pos h
theorem traceR_1 {l : List Int} (h : ¬ l.length = 0) (k : allB l = false) : traceR l = (0, 1) := by unfold traceR; rw [if_neg h, if_pos k]
theorem traceR_2 {l : List Int} (h : ¬ l.length = 0) (k : allB l = true) (m : ¬ nth l 0 = 1) : traceR l = (0, 0) := by unfold traceR; rw [if_neg h, if_neg (by rw [k]; decide), if_pos m]
theorem traceR_3 {l : List Int} (h : ¬ l.length = 0) (k : allB l = true) (m : nth l 0 = 1) {x : Nat} (hx : IsAt l x) : traceR l = (((x : Nat) : Int), 0) := by
  unfold traceR; rw [if_neg h, if_neg (by rw [k]; decide), if_neg (by simp [m]), hx.unique (chn_at (by omega))]

section
variable {w : World} {A : Option Addr} {n : Nat} {l : List Int}
theorem Ints.at_ (h : Ints w A n l) {j : Nat} (hj : j < n) : ∃ b o, A = some ⟨b, o, none⟩ ∧ b < w.heap.size ∧ w.cell? ⟨b, o + j, none⟩ = some (.int .i64 (nth l j)) := by
  obtain ⟨b, o, e, hb, hc⟩ := h.2.2.2 (by omega)
  exact ⟨b, o, e, hb, hc j hj⟩
end

end Go.Proofs.YtlbmlhcphoiaeaaDoor

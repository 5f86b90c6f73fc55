/-
  Layer 17: blocks of numbers and of bools, read and stored at a place; marks; a tally where one is something else.
-/
import Derived.Test.YtmndkofdoclihaaWoa
namespace Go.Proofs.Ytmndkofdoclihaa
open Go.RowKit

/-- A block of numbers. -/
def BkI (w : World) (g : Nat) (t : TypeId) (l : List Int) : Prop := Bk w g t (l.map fun x => Value.int .i64 x).toArray
/-- A block of bools. -/
def BkB (w : World) (g : Nat) (t : TypeId) (l : List Bool) : Prop := Bk w g t (l.map fun x => Value.bool x).toArray
section
variable {w : World} {g : Nat} {t : TypeId} {l : List Int} {ms : List Bool}
theorem BkI.at_ (h : BkI w g t l) {k : Nat} (hk : k < l.length) : w.cell? ⟨g, k, none⟩ = some (.int .i64 (nth l k)) := by
  rw [h.cell k, nth_get hk]
  simp [hk]
theorem BkI.set_ (h : BkI w g t l) (k : Nat) (x : Int) : BkI (w.setCell ⟨g, k, none⟩ (.int .i64 x)) g t (l.set k x) := by
  have := Bk.set_ h k (.int .i64 x)
  unfold BkI
  rw [List.map_set]
  simpa using this
theorem BkI.lt (h : BkI w g t l) : g < w.heap.size := Bk.lt h
theorem BkI.below {w' : World} (h : BkI w g t l) (hb : Below w.heap.size w w') : BkI w' g t l := Bk.below h hb h.lt
theorem BkB.at_ (h : BkB w g t ms) {k : Nat} (hk : k < ms.length) : w.cell? ⟨g, k, none⟩ = some (.bool (bth ms k)) := by
  rw [h.cell k, bth_get hk]
  simp [hk]
theorem BkB.set_ (h : BkB w g t ms) (k : Nat) (x : Bool) : BkB (w.setCell ⟨g, k, none⟩ (.bool x)) g t (ms.set k x) := by
  have := Bk.set_ h k (.bool x)
  unfold BkB
  rw [List.map_set]
  simpa using this
theorem BkB.lt (h : BkB w g t ms) : g < w.heap.size := Bk.lt h
theorem BkB.below {w' : World} (h : BkB w g t ms) (hb : Below w.heap.size w w') : BkB w' g t ms := Bk.below h hb h.lt
end

/-- A tally's numbers. -/
def talW (is : List Int) : List Int := [(manyWo is 0 : Int), (manyWo is 1 : Int), (manyWo is 2 : Int), (manyWo is 3 : Int)]
theorem talW_at (is : List Int) {k : Nat} (hk : k < 4) : nth (talW is) k = (manyWo is (k : Int) : Int) := by
  have : k = 0 ∨ k = 1 ∨ k = 2 ∨ k = 3 := by omega
  rcases this with rfl | rfl | rfl | rfl <;> rfl
theorem talW_len (is : List Int) : (talW is).length = 4 := rfl
theorem tal_one {is : List Int} {k : Nat} (hk : k < is.length) {f : Nat} (hf : f < 4) (e : nth is k = (f : Int)) : (talW (is.take k)).set f (nth (talW (is.take k)) f + 1) = talW (is.take (k + 1)) := by
  refine ext_nth (by simp [talW]) fun i hi => ?_
  have hi4 : i < 4 := by simpa [talW] using hi
  rw [nth_set _ _ _ _ hi4, talW_at _ hi4, talW_at _ hf, talW_at _ hi4, many_next hk, e]
  by_cases h : f = i
  · subst h; simp
  · have : ¬ (f : Int) = (i : Int) := by omega
    simp [h, this]
theorem tal_nil : talW [] = [0, 0, 0, 0] := rfl
theorem tal_moved {is : List Int} {k : Nat} (hk : k < is.length) {f t : Nat} (hf : f < 4) (ht : t < 4) (e : nth is k = (f : Int)) :
    ((talW is).set f (nth (talW is) f - 1)).set t (nth ((talW is).set f (nth (talW is) f - 1)) t + 1) = talW (is.set k (t : Int)) := by
  refine ext_nth (by simp [talW]) fun i hi => ?_
  have hi4 : i < 4 := by simpa [talW] using hi
  rw [nth_set _ _ _ _ (by simp [talW]; omega), nth_set _ _ _ _ (by simp [talW]; omega), nth_set _ _ _ _ (by simp [talW]; omega), talW_at _ hi4, talW_at _ hf, talW_at _ ht, talW_at _ hi4]
  have hm := many_set hk (t : Int) (i : Int)
  rw [e] at hm
  by_cases h1 : f = i
  · subst h1
    by_cases h2 : t = f
    · subst h2; simp at hm ⊢; omega
    · have h2' : ¬ (t : Int) = (f : Int) := by omega
      simp [h2, h2'] at hm ⊢; omega
  · have h1' : ¬ (f : Int) = (i : Int) := by omega
    by_cases h2 : t = i
    · subst h2; simp [h1, h1'] at hm ⊢; omega
    · have h2' : ¬ (t : Int) = (i : Int) := by omega
      simp [h1, h2, h1', h2'] at hm ⊢; omega

/-- Which numbers were met in a list. -/
def marksW (l : List Int) : List Bool := (List.range 64).map fun (j : Nat) => decide ((j : Int) ∈ l)
theorem marksW_len (l : List Int) : (marksW l).length = 64 := by simp [marksW]
theorem marksW_nil : marksW [] = List.replicate 64 false := by decide
theorem marksW_at {l : List Int} {j : Nat} (hj : j < 64) : bth (marksW l) j = decide ((j : Int) ∈ l) := by
  rw [bth_get (by rw [marksW_len]; exact hj)]
  simp [marksW]
theorem marksW_set {l : List Int} {j : Nat} : (marksW l).set j true = marksW (l ++ [(j : Int)]) := by
  refine List.ext_getElem (by simp [marksW]) fun i h1 h2 => ?_
  rw [List.getElem_set]
  by_cases h : j = i
  · subst h; simp [marksW]
  · rw [if_neg h]
    have h' : ¬ (i : Int) = (j : Int) := by omega
    simp [marksW, h']

/-- One of the list is there, rests, and was not met ahead. -/
def newWo1 (is : List Int) (ms : List Bool) (y : Int) : Prop := (0 ≤ y ∧ y < is.length) ∧ 2 ≤ nth is y.toNat ∧ bth ms y.toNat = false
instance (is : List Int) (ms : List Bool) (y : Int) : Decidable (newWo1 is ms y) := by unfold newWo1; exact inferInstance
theorem good_next {is st : List Int} {k : Nat} (h64 : is.length ≤ 64) (hg : goodWo is st k) (h : newWo1 is (marksW (st.take k)) (nth st k)) : goodWo is st (k + 1) := fun j hj => by
  by_cases e : j = k
  · subst e
    obtain ⟨⟨h1, h2⟩, h3, h4⟩ := h
    rw [marksW_at (by omega)] at h4
    refine ⟨⟨h1, h2, h3⟩, fun hm => ?_⟩
    rw [show (((nth st j).toNat : Nat) : Int) = nth st j by omega, decide_eq_true hm] at h4
    cases h4
  · exact hg j (by omega)
theorem good_stop {is st : List Int} {k : Nat} (h64 : is.length ≤ 64) (hk : k < st.length) (h : ¬ newWo1 is (marksW (st.take k)) (nth st k)) : ¬ goodWo is st st.length := fun hg => by
  obtain ⟨⟨h1, h2, h3⟩, h4⟩ := hg k hk
  refine h ⟨⟨h1, h2⟩, h3, ?_⟩
  rw [marksW_at (by omega), show (((nth st k).toNat : Nat) : Int) = nth st k by omega, decide_eq_false h4]

end Go.Proofs.Ytmndkofdoclihaa

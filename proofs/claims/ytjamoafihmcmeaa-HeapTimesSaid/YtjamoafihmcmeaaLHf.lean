/-
  Layer 8: what the program answers fits what the document does.
-/
import Derived.Test.YtjamoafihmcmeaaLHBack
namespace Go.Proofs.Ytjamoafihmcmeaa
open Go.RowKit

/-- A heap fits a list, or nothing is there with an error. -/
def Fits8 (z : Int) (a b : List Tm) : Prop := ((z ≠ 0 ∧ a = []) ∨ (z = 0 ∧ heapOk a ∧ a.Perm b)) ∧ b.length ≤ 1000
theorem fits_of {z r : Int} {a b : List Tm} (hz : z = r) (h0 : r = 0 → heapOk a ∧ a.Perm b) (h1 : r ≠ 0 → a = [] ∧ b = []) : z = r ∧ Fits8 z a b := by
  subst hz
  by_cases h : z = 0
  · obtain ⟨p, q⟩ := h0 h
    exact ⟨rfl, .inr ⟨h, p, q⟩, by rw [← q.length_eq]; have := p.few; omega⟩
  · obtain ⟨p, q⟩ := h1 h
    exact ⟨rfl, .inl ⟨h, p⟩, by rw [q]; decide⟩
theorem add_fit {l : List Tm} {t : Tm} {z r : Int} {a b : List Tm} (h : AddSpec l t z a) (e : addR l t = (r, b)) : z = r ∧ Fits8 z a b := by
  have e1 : (addR l t).1 = r := by rw [e]
  have e2 : (addR l t).2 = b := by rw [e]
  refine fits_of (h.1.trans e1) (fun q => ?_) (fun q => ?_)
  · obtain ⟨p, s⟩ := h.2.2 ((h.1.trans e1).trans q)
    exact ⟨p, e2 ▸ s.trans (add_ref (e1.trans q)).symm⟩
  · exact ⟨h.2.1 (by rw [h.1, e1]; exact q), e2 ▸ add_refN (by rw [e1]; exact q)⟩
theorem cancel_fit {l : List Tm} {t : Int} {z r : Int} {a b : List Tm} (h : CancelSpec l t z a) (e : cancelR l t = (r, b)) : z = r ∧ Fits8 z a b := by
  have e1 : (cancelR l t).1 = r := by rw [e]
  have e2 : (cancelR l t).2 = b := by rw [e]
  refine fits_of (h.1.trans e1) (fun q => ?_) (fun q => ?_)
  · obtain ⟨p, s⟩ := h.2.2 ((h.1.trans e1).trans q)
    exact ⟨p, e2 ▸ s.trans (cancel_ref (e1.trans q)).symm⟩
  · exact ⟨h.2.1 (by rw [h.1, e1]; exact q), e2 ▸ cancel_refN (by rw [e1]; exact q)⟩
theorem reset_fit {l : List Tm} {t u : Int} {z r : Int} {a b : List Tm} (h : ResetSpec l t u z a) (e : resetR l t u = (r, b)) : z = r ∧ Fits8 z a b := by
  have e1 : (resetR l t u).1 = r := by rw [e]
  have e2 : (resetR l t u).2 = b := by rw [e]
  refine fits_of (h.1.trans e1) (fun q => ?_) (fun q => ?_)
  · obtain ⟨p, s⟩ := h.2.2 ((h.1.trans e1).trans q)
    exact ⟨p, e2 ▸ s.trans (reset_ref (e1.trans q)).symm⟩
  · exact ⟨h.2.1 (by rw [h.1, e1]; exact q), e2 ▸ reset_refN (by rw [e1]; exact q)⟩
theorem expire_fit {l : List Tm} {t : Int} {z r : Int} {xs ys : List Int} {a b : List Tm} (h : ExpireSpec l t z xs a) (e : expireR l t = (r, ys, b)) : xs = ys ∧ z = r ∧ Fits8 z a b := by
  have e1 : (expireR l t).1 = r := by rw [e]
  have e2 : (expireR l t).2.1 = ys := by rw [e]
  have e3 : (expireR l t).2.2 = b := by rw [e]
  have hz := h.1.trans e1
  refine ⟨?_, fits_of hz (fun q => ?_) (fun q => ?_)⟩
  · by_cases q : r = 0
    · rw [(h.2.2 (hz.trans q)).1, ← e2, (expire_ref (e1.trans q)).1]
    · rw [(h.2.1 (by rw [hz]; exact q)).1, ← e2, (expire_refN (by rw [e1]; exact q)).1]
  · obtain ⟨_, p, s⟩ := h.2.2 (hz.trans q)
    exact ⟨p, e3 ▸ s.trans (expire_ref (e1.trans q)).2.symm⟩
  · exact ⟨(h.2.1 (by rw [hz]; exact q)).2, e3 ▸ (expire_refN (by rw [e1]; exact q)).2⟩
theorem fits8_yes (A B : Option Addr) (c d : Nat) (a b : List Tm) (z : Int) (w : World) (ha : Tms w A a.length c a) (hb : Tms w B b.length d b) (h : Fits8 z a b) :
    Calls Try.prog 17 #[.slice A a.length c, .int .i64 z, .slice B b.length d, .int .i64 z] w (RetB (.bool true) w) := fits_yes A B c d a b z w ha hb h.1 h.2
theorem wrap_fit (x : Int) : Fit (IntKind.i64.wrap x) := by
  unfold Fit
  rw [IntKind.wrap_i64]
  omega

end Go.Proofs.Ytjamoafihmcmeaa

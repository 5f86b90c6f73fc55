/-
  The law HeapTimes of layer 8 holds, for every input: whatever is added, cancelled, set to another time, and expired: the heap may be; what expires comes in order, none twice, at the time that it was set to last; what was cancelled does not come. No condition beyond the row's own.
-/
import Derived.Test.YtjamoafihmcmeaaLHTimes
import Derived.Test.YtjamoafihmcmeaaPRowT
namespace Go.Proofs.Ytjamoafihmcmeaa
open Go.ChangeShapes Go.WideShapes Go.ChangeAt Go.RowKit

set_option maxRecDepth 100000 in
theorem ltimes_gives {H : Type} (enc : TypeId × Value → H) : Gives enc 5 Try.f5.params.toList Rows.heapTimesSpec := by
  intro W base args ds p hval hA hsz hlt
  rw [Try.params5] at hA hval hsz
  obtain ⟨v0, vs0, d0, ds0, p0, q0, hargs, rfl, rfl, h0, r0⟩ := trodAll_cons hA
  obtain ⟨rfl, rfl, rfl⟩ := trodAll_nil r0
  obtain rfl : args = #[v0] := by cases args; simp_all
  refine ⟨rfl, ?_⟩
  obtain ⟨A0, n0, c0, l0, rfl, hx0⟩ := open_ops8 (hval 0 43 v0 rfl rfl) h0 (fun x hx => hlt x (by simp [hx]))
  exact ltimes_any A0 n0 c0 l0 W hx0

set_option maxRecDepth 100000 in
theorem ltimes_lifted (os : Os) (started : os.Started) (H : Type) (enc : TypeId × Value → H) :
    ReturnsInHanded {} Try.checked os 5 .any (Rows.heapTimesSpec.pre6 enc Try.prog Try.f5 Rows.heapTimesRow.domain false) (Rows.heapTimesSpec.post enc Try.prog Try.f5 false true false false) :=
  law_lifted os started 5 Try.f5 Rows.heapTimesSpec rfl rfl (by kernel_rfl) Try.func5 (by kernel_rfl) (by kernel_rfl)
    (ChangeSpec.witness6 (enc := enc) (C := Try.checked) false ⟨#[], #[.slice none 0 0], []⟩ 8 (by kernel_rfl) (by kernel_rfl) (by kernel_rfl) (by kernel_rfl))
    (ltimes_gives enc)

set_option maxRecDepth 100000 in
theorem HeapTimes_holds : Rows.HeapTimesSaid :=
  OpenClaim.holds_of_wide 5 Try.f5 rfl rfl rfl rfl rfl rfl rfl ⟨rfl, rfl, rfl, rfl, rfl⟩ rfl rfl rfl rfl rfl (by kernel_rfl) Try.func5 (by kernel_rfl)
    (of_decide_eq_true (by kernel_rfl)) (by unfold Func.isWrapper; first | (rw [if_pos (by decide +kernel)]; kernel_rfl) | (rw [if_neg (by decide +kernel)]; exact ⟨rfl, rfl⟩))
    (fun os started H enc _ => ltimes_lifted os started H enc)

#print axioms HeapTimes_holds
end Go.Proofs.Ytjamoafihmcmeaa

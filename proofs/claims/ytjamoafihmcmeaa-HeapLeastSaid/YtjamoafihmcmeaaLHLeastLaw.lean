/-
  The law HeapLeast of layer 8 holds, for every input: the first one of all is the first one in order; without it the next one is, till there is none. No condition beyond the row's own.
-/
import Derived.Test.YtjamoafihmcmeaaLHLeast
import Derived.Test.YtjamoafihmcmeaaPRowT
namespace Go.Proofs.Ytjamoafihmcmeaa
open Go.ChangeShapes Go.WideShapes Go.ChangeAt Go.RowKit

set_option maxRecDepth 100000 in
theorem lleast_gives {H : Type} (enc : TypeId × Value → H) : Gives enc 9 Try.f9.params.toList Rows.heapLeastSpec := by
  intro W base args ds p hval hA hsz hlt
  rw [Try.params9] at hA hval hsz
  obtain ⟨v0, vs0, d0, ds0, p0, q0, hargs, rfl, rfl, h0, r0⟩ := trodAll_cons hA
  obtain ⟨rfl, rfl, rfl⟩ := trodAll_nil r0
  obtain rfl : args = #[v0] := by cases args; simp_all
  refine ⟨rfl, ?_⟩
  obtain ⟨A0, n0, c0, l0, rfl, hx0⟩ := open_tms (hval 0 22 v0 rfl rfl) h0 (fun x hx => hlt x (by simp [hx]))
  exact lleast_any A0 n0 c0 l0 W hx0

set_option maxRecDepth 100000 in
theorem lleast_lifted (os : Os) (started : os.Started) (H : Type) (enc : TypeId × Value → H) :
    ReturnsInHanded {} Try.checked os 9 .any (Rows.heapLeastSpec.pre6 enc Try.prog Try.f9 Rows.heapLeastRow.domain false) (Rows.heapLeastSpec.post enc Try.prog Try.f9 false true false false) :=
  law_lifted os started 9 Try.f9 Rows.heapLeastSpec rfl rfl (by kernel_rfl) Try.func9 (by kernel_rfl) (by kernel_rfl)
    (ChangeSpec.witness6 (enc := enc) (C := Try.checked) false ⟨#[], #[.slice none 0 0], []⟩ 8 (by kernel_rfl) (by kernel_rfl) (by kernel_rfl) (by kernel_rfl))
    (lleast_gives enc)

set_option maxRecDepth 100000 in
theorem HeapLeast_holds : Rows.HeapLeastSaid :=
  OpenClaim.holds_of_wide 9 Try.f9 rfl rfl rfl rfl rfl rfl rfl ⟨rfl, rfl, rfl, rfl, rfl⟩ rfl rfl rfl rfl rfl (by kernel_rfl) Try.func9 (by kernel_rfl)
    (of_decide_eq_true (by kernel_rfl)) (by unfold Func.isWrapper; first | (rw [if_pos (by decide +kernel)]; kernel_rfl) | (rw [if_neg (by decide +kernel)]; exact ⟨rfl, rfl⟩))
    (fun os started H enc _ => lleast_lifted os started H enc)

#print axioms HeapLeast_holds
end Go.Proofs.Ytjamoafihmcmeaa

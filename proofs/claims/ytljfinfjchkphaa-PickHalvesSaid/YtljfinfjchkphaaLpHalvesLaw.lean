/-
  The law PickHalves of layer 16 holds, for every input: what is stolen, and what spills over, are all there are, and no farther apart than one. No condition beyond the row's own.
-/
import Derived.Test.YtljfinfjchkphaaLpHalves
import Derived.Test.YtljfinfjchkphaaPRowPk
namespace Go.Proofs.Ytljfinfjchkphaa
open Go.ChangeShapes Go.WideShapes Go.ChangeAt Go.RowKit

set_option maxRecDepth 100000 in
theorem pickhalves_gives {H : Type} (enc : TypeId × Value → H) : Gives enc 6 Try.f6.params.toList Rows.pickHalvesSpec := by
  intro W base args ds p hval hA hsz hlt
  rw [Try.params6] at hA hval hsz
  obtain ⟨v0, vs0, d0, ds0, p0, q0, hargs, rfl, rfl, h0, r0⟩ := trodAll_cons hA
  obtain ⟨rfl, rfl, rfl⟩ := trodAll_nil r0
  obtain rfl : args = #[v0] := by cases args; simp_all
  refine ⟨rfl, ?_⟩
  obtain ⟨a0, rfl, rfl, rfl, w0⟩ := open_int Try.underlying3 (hval 0 3 v0 rfl rfl) h0
  exact pickhalves_any a0 W (fit_of_wf w0)

set_option maxRecDepth 100000 in
theorem pickhalves_lifted (os : Os) (started : os.Started) (H : Type) (enc : TypeId × Value → H) :
    ReturnsInHanded {} Try.checked os 6 .any (Rows.pickHalvesSpec.pre6 enc Try.prog Try.f6 Rows.pickHalvesRow.domain false) (Rows.pickHalvesSpec.post enc Try.prog Try.f6 false true false false) :=
  law_lifted os started 6 Try.f6 Rows.pickHalvesSpec rfl rfl (by kernel_rfl) Try.func6 (by kernel_rfl) (by kernel_rfl)
    (ChangeSpec.witness6 (enc := enc) (C := Try.checked) false ⟨#[], #[.int .i64 0], []⟩ 8 (by kernel_rfl) (by kernel_rfl) (by kernel_rfl) (by kernel_rfl))
    (pickhalves_gives enc)

set_option maxRecDepth 100000 in
theorem PickHalves_holds : Rows.PickHalvesSaid :=
  OpenClaim.holds_of_wide 6 Try.f6 rfl rfl rfl rfl rfl rfl rfl ⟨rfl, rfl, rfl, rfl, rfl⟩ rfl rfl rfl rfl rfl (by kernel_rfl) Try.func6 (by kernel_rfl)
    (of_decide_eq_true (by kernel_rfl)) (by unfold Func.isWrapper; first | (rw [if_pos (by decide +kernel)]; kernel_rfl) | (rw [if_neg (by decide +kernel)]; exact ⟨rfl, rfl⟩))
    (fun os started H enc _ => pickhalves_lifted os started H enc)

#print axioms PickHalves_holds
end Go.Proofs.Ytljfinfjchkphaa

/-
  The law CodeParts of layer 4 holds, for every input: of two programs one behind the other the units are those of both, or of the first one, where it has an exit. No condition beyond the row's own.
-/
import Derived.Test.YtcbgmhbmdklbfaaLParts
import Derived.Test.YtcbgmhbmdklbfaaPRow
namespace Go.Proofs.Ytcbgmhbmdklbfaa
open Go.ChangeShapes Go.WideShapes Go.ChangeAt Go.RowKit

theorem lparts_gives {H : Type} (enc : TypeId × Value → H) : Gives enc 8 Try.f8.params.toList Rows.codePartsSpec := by
  intro W base args ds p hval hA hsz hlt
  rw [Try.params8] at hA hval hsz
  obtain ⟨v0, vs0, d0, ds0, p0, q0, hargs, rfl, rfl, h0, r0⟩ := trodAll_cons hA
  obtain ⟨v1, vs1, d1, ds1, p1, q1, rfl, rfl, rfl, h1, r1⟩ := trodAll_cons r0
  obtain ⟨rfl, rfl, rfl⟩ := trodAll_nil r1
  obtain rfl : args = #[v0, v1] := by cases args; simp_all
  refine ⟨rfl, ?_⟩
  obtain ⟨A0, n0, c0, q0', rfl, hx0⟩ := open_prog (hval 0 25 v0 rfl rfl) h0 (fun x hx => hlt x (by simp [hx]))
  obtain ⟨A1, n1, c1, q1', rfl, hx1⟩ := open_prog (hval 1 25 v1 rfl rfl) h1 (fun x hx => hlt x (by simp [hx]))
  exact lparts_any A0 A1 n0 c0 n1 c1 q0' q1' W hx0 hx1

set_option maxRecDepth 100000 in
theorem lparts_lifted (os : Os) (started : os.Started) (H : Type) (enc : TypeId × Value → H) :
    ReturnsInHanded {} Try.checked os 8 .any (Rows.codePartsSpec.pre6 enc Try.prog Try.f8 Rows.codePartsRow.domain false) (Rows.codePartsSpec.post enc Try.prog Try.f8 false true false false) :=
  law_lifted os started 8 Try.f8 Rows.codePartsSpec rfl rfl (by kernel_rfl) Try.func8 (by kernel_rfl) (by kernel_rfl)
    (ChangeSpec.witness6 (enc := enc) (C := Try.checked) false ⟨#[], #[.slice none 0 0, .slice none 0 0], []⟩ 8 (by kernel_rfl) (by kernel_rfl) (by kernel_rfl) (by kernel_rfl))
    (lparts_gives enc)

theorem CodeParts_holds : Rows.CodePartsSaid :=
  OpenClaim.holds_of_wide 8 Try.f8 rfl rfl rfl rfl rfl rfl rfl ⟨rfl, rfl, rfl, rfl, rfl⟩ rfl rfl rfl rfl rfl (by kernel_rfl) Try.func8 (by kernel_rfl)
    (of_decide_eq_true (by kernel_rfl)) (by unfold Func.isWrapper; first | (rw [if_pos (by decide +kernel)]; kernel_rfl) | (rw [if_neg (by decide +kernel)]; exact ⟨rfl, rfl⟩))
    (fun os started H enc _ => lparts_lifted os started H enc)

#print axioms CodeParts_holds
end Go.Proofs.Ytcbgmhbmdklbfaa

/-
  The law SlotIds of layer 5 holds, for every input: the ids of places that are there rise by their places' numbers, each once, and each is found at its own. No condition beyond the row's own.
-/
import Derived.Test.YtfaajimmammfdaaLIds
import Derived.Test.YtfaajimmammfdaaPRow
namespace Go.Proofs.Ytfaajimmammfdaa
open Go.ChangeShapes Go.WideShapes Go.ChangeAt Go.RowKit

theorem lids_gives {H : Type} (enc : TypeId × Value → H) : Gives enc 6 Try.f6.params.toList Rows.slotIdsSpec := by
  intro W base args ds p hval hA hsz hlt
  rw [Try.params6] at hA hval hsz
  obtain ⟨v0, vs0, d0, ds0, p0, q0, hargs, rfl, rfl, h0, r0⟩ := trodAll_cons hA
  obtain ⟨rfl, rfl, rfl⟩ := trodAll_nil r0
  obtain rfl : args = #[v0] := by cases args; simp_all
  refine ⟨rfl, ?_⟩
  obtain ⟨A0, n0, c0, B0, m0, e0, gs0, ls0, rfl, hm0, hk0, hx0⟩ := open_plc (hval 0 25 v0 rfl rfl) h0 (fun x hx => hlt x (by simp [hx]))
  exact lids_any A0 B0 n0 c0 m0 e0 gs0 ls0 W hm0 hk0 hx0

set_option maxRecDepth 100000 in
theorem lids_lifted (os : Os) (started : os.Started) (H : Type) (enc : TypeId × Value → H) :
    ReturnsInHanded {} Try.checked os 6 .any (Rows.slotIdsSpec.pre6 enc Try.prog Try.f6 Rows.slotIdsRow.domain false) (Rows.slotIdsSpec.post enc Try.prog Try.f6 false true false false) :=
  law_lifted os started 6 Try.f6 Rows.slotIdsSpec rfl rfl (by kernel_rfl) Try.func6 (by kernel_rfl) (by kernel_rfl)
    (ChangeSpec.witness6 (enc := enc) (C := Try.checked) false ⟨#[], #[.agg #[.slice none 0 0, .slice none 0 0]], []⟩ 8 (by kernel_rfl) (by kernel_rfl) (by kernel_rfl) (by kernel_rfl))
    (lids_gives enc)

theorem SlotIds_holds : Rows.SlotIdsSaid :=
  OpenClaim.holds_of_wide 6 Try.f6 rfl rfl rfl rfl rfl rfl rfl ⟨rfl, rfl, rfl, rfl, rfl⟩ rfl rfl rfl rfl rfl (by kernel_rfl) Try.func6 (by kernel_rfl)
    (of_decide_eq_true (by kernel_rfl)) (by unfold Func.isWrapper; first | (rw [if_pos (by decide +kernel)]; kernel_rfl) | (rw [if_neg (by decide +kernel)]; exact ⟨rfl, rfl⟩))
    (fun os started H enc _ => lids_lifted os started H enc)

#print axioms SlotIds_holds
end Go.Proofs.Ytfaajimmammfdaa

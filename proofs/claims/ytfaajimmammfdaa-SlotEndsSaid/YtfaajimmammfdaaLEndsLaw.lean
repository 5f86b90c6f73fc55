/-
  The law SlotEnds of layer 5 holds, for every input: a place of the greatest generation is given no more; each other one that is not there is, the least number first. No condition beyond the row's own.
-/
import Derived.Test.YtfaajimmammfdaaLEnds
import Derived.Test.YtfaajimmammfdaaPRow
namespace Go.Proofs.Ytfaajimmammfdaa
open Go.ChangeShapes Go.WideShapes Go.ChangeAt Go.RowKit

theorem lends_gives {H : Type} (enc : TypeId × Value → H) : Gives enc 5 Try.f5.params.toList Rows.slotEndsSpec := by
  intro W base args ds p hval hA hsz hlt
  rw [Try.params5] at hA hval hsz
  obtain ⟨v0, vs0, d0, ds0, p0, q0, hargs, rfl, rfl, h0, r0⟩ := trodAll_cons hA
  obtain ⟨v1, vs1, d1, ds1, p1, q1, rfl, rfl, rfl, h1, r1⟩ := trodAll_cons r0
  obtain ⟨rfl, rfl, rfl⟩ := trodAll_nil r1
  obtain rfl : args = #[v0, v1] := by cases args; simp_all
  refine ⟨rfl, ?_⟩
  obtain ⟨A0, n0, c0, zs0, rfl, hm0, hx0⟩ := open_i64s (hval 0 22 v0 rfl rfl) h0 (fun x hx => hlt x (by simp [hx]))
  obtain ⟨A1, n1, c1, zs1, rfl, hm1, hx1⟩ := open_flags (hval 1 23 v1 rfl rfl) h1 (fun x hx => hlt x (by simp [hx]))
  exact lends_any A0 A1 n0 c0 n1 c1 zs0 zs1 W hm0 hm1 hx0 hx1

set_option maxRecDepth 100000 in
theorem lends_lifted (os : Os) (started : os.Started) (H : Type) (enc : TypeId × Value → H) :
    ReturnsInHanded {} Try.checked os 5 .any (Rows.slotEndsSpec.pre6 enc Try.prog Try.f5 Rows.slotEndsRow.domain false) (Rows.slotEndsSpec.post enc Try.prog Try.f5 false true false false) :=
  law_lifted os started 5 Try.f5 Rows.slotEndsSpec rfl rfl (by kernel_rfl) Try.func5 (by kernel_rfl) (by kernel_rfl)
    (ChangeSpec.witness6 (enc := enc) (C := Try.checked) false ⟨#[], #[.slice none 0 0, .slice none 0 0], []⟩ 8 (by kernel_rfl) (by kernel_rfl) (by kernel_rfl) (by kernel_rfl))
    (lends_gives enc)

theorem SlotEnds_holds : Rows.SlotEndsSaid :=
  OpenClaim.holds_of_wide 5 Try.f5 rfl rfl rfl rfl rfl rfl rfl ⟨rfl, rfl, rfl, rfl, rfl⟩ rfl rfl rfl rfl rfl (by kernel_rfl) Try.func5 (by kernel_rfl)
    (of_decide_eq_true (by kernel_rfl)) (by unfold Func.isWrapper; first | (rw [if_pos (by decide +kernel)]; kernel_rfl) | (rw [if_neg (by decide +kernel)]; exact ⟨rfl, rfl⟩))
    (fun os started H enc _ => lends_lifted os started H enc)

#print axioms SlotEnds_holds
end Go.Proofs.Ytfaajimmammfdaa

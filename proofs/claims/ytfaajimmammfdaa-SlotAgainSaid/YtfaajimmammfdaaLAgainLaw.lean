/-
  The law SlotAgain of layer 5 holds, for every input: a place that is freed, and taken again, has an id greater by just one generation; the old one is stale. No condition beyond the row's own.
-/
import Derived.Test.YtfaajimmammfdaaLAgain
import Derived.Test.YtfaajimmammfdaaPRow
namespace Go.Proofs.Ytfaajimmammfdaa
open Go.ChangeShapes Go.WideShapes Go.ChangeAt Go.RowKit

theorem lagain_gives {H : Type} (enc : TypeId × Value → H) : Gives enc 7 Try.f7.params.toList Rows.slotAgainSpec := by
  intro W base args ds p hval hA hsz hlt
  rw [Try.params7] at hA hval hsz
  obtain ⟨v0, vs0, d0, ds0, p0, q0, hargs, rfl, rfl, h0, r0⟩ := trodAll_cons hA
  obtain ⟨v1, vs1, d1, ds1, p1, q1, rfl, rfl, rfl, h1, r1⟩ := trodAll_cons r0
  obtain ⟨rfl, rfl, rfl⟩ := trodAll_nil r1
  obtain rfl : args = #[v0, v1] := by cases args; simp_all
  refine ⟨rfl, ?_⟩
  obtain ⟨A0, n0, c0, B0, m0, e0, gs0, ls0, rfl, hm0, hk0, hx0⟩ := open_plc (hval 0 25 v0 rfl rfl) h0 (fun x hx => hlt x (by simp [hx]))
  obtain ⟨a1, rfl, rfl, rfl, w1⟩ := open_int Try.underlying2 (hval 1 2 v1 rfl rfl) h1
  exact lagain_any A0 B0 n0 c0 m0 e0 gs0 ls0 a1 W hm0 hk0 hx0 (fit_of_wf w1)

set_option maxRecDepth 100000 in
theorem lagain_lifted (os : Os) (started : os.Started) (H : Type) (enc : TypeId × Value → H) :
    ReturnsInHanded {} Try.checked os 7 .any (Rows.slotAgainSpec.pre6 enc Try.prog Try.f7 Rows.slotAgainRow.domain false) (Rows.slotAgainSpec.post enc Try.prog Try.f7 false true false false) :=
  law_lifted os started 7 Try.f7 Rows.slotAgainSpec rfl rfl (by kernel_rfl) Try.func7 (by kernel_rfl) (by kernel_rfl)
    (ChangeSpec.witness6 (enc := enc) (C := Try.checked) false ⟨#[], #[.agg #[.slice none 0 0, .slice none 0 0], .int .i64 0], []⟩ 8 (by kernel_rfl) (by kernel_rfl) (by kernel_rfl) (by kernel_rfl))
    (lagain_gives enc)

theorem SlotAgain_holds : Rows.SlotAgainSaid :=
  OpenClaim.holds_of_wide 7 Try.f7 rfl rfl rfl rfl rfl rfl rfl ⟨rfl, rfl, rfl, rfl, rfl⟩ rfl rfl rfl rfl rfl (by kernel_rfl) Try.func7 (by kernel_rfl)
    (of_decide_eq_true (by kernel_rfl)) (by unfold Func.isWrapper; first | (rw [if_pos (by decide +kernel)]; kernel_rfl) | (rw [if_neg (by decide +kernel)]; exact ⟨rfl, rfl⟩))
    (fun os started H enc _ => lagain_lifted os started H enc)

#print axioms SlotAgain_holds
end Go.Proofs.Ytfaajimmammfdaa

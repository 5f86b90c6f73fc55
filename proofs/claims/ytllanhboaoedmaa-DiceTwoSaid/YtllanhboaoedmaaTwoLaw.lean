/-
  The law DiceTwo of layer 3 holds, for every input: an order is drawn by as many single draws as it has places less one. No condition beyond the row's own.
-/
import Derived.Test.YtllanhboaoedmaaTwo
import Derived.Test.YtllanhboaoedmaaDRow
namespace Go.Proofs.Ytllanhboaoedmaa
open Go.ChangeShapes Go.WideShapes Go.ChangeAt Go.RowKit

theorem two_gives {H : Type} (enc : TypeId × Value → H) : Gives enc 8 Try.f8.params.toList Rows.diceTwoSpec := by
  intro W base args ds p hval hA hsz hlt
  rw [Try.params8] at hA hval hsz
  obtain ⟨v0, vs0, d0, ds0, p0, q0, hargs, rfl, rfl, h0, r0⟩ := trodAll_cons hA
  obtain ⟨v1, vs1, d1, ds1, p1, q1, rfl, rfl, rfl, h1, r1⟩ := trodAll_cons r0
  obtain ⟨rfl, rfl, rfl⟩ := trodAll_nil r1
  obtain rfl : args = #[v0, v1] := by cases args; simp_all
  refine ⟨rfl, ?_⟩
  obtain ⟨A0, n0, c0, z0, zs0, rfl, hm0, hx0, fz0⟩ := open_dice (hval 0 24 v0 rfl rfl) h0 (fun x hx => hlt x (by simp [hx]))
  obtain ⟨a1, rfl, rfl, rfl, w1⟩ := open_int Try.underlying3 (hval 1 3 v1 rfl rfl) h1
  exact two_any A0 n0 c0 z0 a1 zs0 W hm0 hx0

set_option maxRecDepth 100000 in
theorem two_lifted (os : Os) (started : os.Started) (H : Type) (enc : TypeId × Value → H) :
    ReturnsInHanded {} Try.checked os 8 .any (Rows.diceTwoSpec.pre6 enc Try.prog Try.f8 Rows.diceTwoRow.domain false) (Rows.diceTwoSpec.post enc Try.prog Try.f8 false true false false) :=
  law_lifted os started 8 Try.f8 Rows.diceTwoSpec rfl rfl (by kernel_rfl) Try.func8 (by kernel_rfl) (by kernel_rfl)
    (ChangeSpec.witness6 (enc := enc) (C := Try.checked) false ⟨#[], #[.agg #[.slice none 0 0, .int .i64 0], .int .i64 0], []⟩ 8 (by kernel_rfl) (by kernel_rfl) (by kernel_rfl) (by kernel_rfl))
    (two_gives enc)

theorem DiceTwo_holds : Rows.DiceTwoSaid :=
  OpenClaim.holds_of_wide 8 Try.f8 rfl rfl rfl rfl rfl rfl rfl ⟨rfl, rfl, rfl, rfl, rfl⟩ rfl rfl rfl rfl rfl (by kernel_rfl) Try.func8 (by kernel_rfl)
    (of_decide_eq_true (by kernel_rfl)) (by unfold Func.isWrapper; first | (rw [if_pos (by decide +kernel)]; kernel_rfl) | (rw [if_neg (by decide +kernel)]; exact ⟨rfl, rfl⟩))
    (fun os started H enc _ => two_lifted os started H enc)

#print axioms DiceTwo_holds
end Go.Proofs.Ytllanhboaoedmaa

/-
  The law CalcThree of layer 2 holds, for every input: however three numbers are added, the sums are the same, and so are products with a sum. No condition beyond the row's own.
-/
import Derived.Test.YtaaffpeppdinhaaThree
import Derived.Test.YtaaffpeppdinhaaRow
namespace Go.Proofs.Ytaaffpeppdinhaa
open Go.ChangeShapes Go.WideShapes Go.ChangeAt Go.RowKit

theorem three_gives {H : Type} (enc : TypeId × Value → H) : Gives enc 8 Try.f8.params.toList Rows.calcThreeSpec := by
  intro W base args ds p hval hA _ _
  rw [Try.params8] at hA hval
  obtain ⟨v0, vs0, d0, ds0, p0, q0, hargs, rfl, rfl, h0, r0⟩ := trodAll_cons hA
  obtain ⟨v1, vs1, d1, ds1, p1, q1, rfl, rfl, rfl, h1, r1⟩ := trodAll_cons r0
  obtain ⟨v2, vs2, d2, ds2, p2, q2, rfl, rfl, rfl, h2, r2⟩ := trodAll_cons r1
  obtain ⟨rfl, rfl, rfl⟩ := trodAll_nil r2
  obtain rfl : args = #[v0, v1, v2] := by cases args; simp_all
  refine ⟨rfl, ?_⟩
  obtain ⟨a0, rfl, rfl, rfl, w0⟩ := open_int Try.underlying2 (hval 0 2 v0 rfl rfl) h0
  obtain ⟨a1, rfl, rfl, rfl, w1⟩ := open_int Try.underlying2 (hval 1 2 v1 rfl rfl) h1
  obtain ⟨a2, rfl, rfl, rfl, w2⟩ := open_int Try.underlying2 (hval 2 2 v2 rfl rfl) h2
  exact three_any a0 a1 a2 W (fit_of_wf w0) (fit_of_wf w1) (fit_of_wf w2)

set_option maxRecDepth 100000 in
theorem three_lifted (os : Os) (started : os.Started) (H : Type) (enc : TypeId × Value → H) :
    ReturnsInHanded {} Try.checked os 8 .any (Rows.calcThreeSpec.pre6 enc Try.prog Try.f8 Rows.calcThreeRow.domain false) (Rows.calcThreeSpec.post enc Try.prog Try.f8 false true false false) :=
  law_lifted os started 8 Try.f8 Rows.calcThreeSpec rfl rfl (by kernel_rfl) Try.func8 (by kernel_rfl) (by kernel_rfl)
    (ChangeSpec.witness6 (enc := enc) (C := Try.checked) false ⟨#[], #[.int .i64 0, .int .i64 0, .int .i64 0], []⟩ 8 (by kernel_rfl) (by kernel_rfl) (by kernel_rfl) (by kernel_rfl))
    (three_gives enc)

theorem CalcThree_holds : Rows.CalcThreeSaid :=
  OpenClaim.holds_of_wide 8 Try.f8 rfl rfl rfl rfl rfl rfl rfl ⟨rfl, rfl, rfl, rfl, rfl⟩ rfl rfl rfl rfl rfl (by kernel_rfl) Try.func8 (by kernel_rfl)
    (of_decide_eq_true (by kernel_rfl)) (by unfold Func.isWrapper; first | (rw [if_pos (by decide +kernel)]; kernel_rfl) | (rw [if_neg (by decide +kernel)]; exact ⟨rfl, rfl⟩))
    (fun os started H enc _ => three_lifted os started H enc)

#print axioms CalcThree_holds
end Go.Proofs.Ytaaffpeppdinhaa

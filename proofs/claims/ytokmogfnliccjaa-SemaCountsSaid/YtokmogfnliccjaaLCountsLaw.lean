/-
  The law SemaCounts of layer 10 holds, for every input: whatever is taken, given, and dropped: as many have gone on as were free at first, and were given, less those that are free; who waits goes on in the order in which it came. No condition beyond the row's own.
-/
import Derived.Test.YtokmogfnliccjaaLCounts
import Derived.Test.YtokmogfnliccjaaPRowM
namespace Go.Proofs.Ytokmogfnliccjaa
open Go.ChangeShapes Go.WideShapes Go.ChangeAt Go.RowKit

set_option maxRecDepth 100000 in
theorem lcounts_gives {H : Type} (enc : TypeId × Value → H) : Gives enc 4 Try.f4.params.toList Rows.semaCountsSpec := by
  intro W base args ds p hval hA hsz hlt
  rw [Try.params4] at hA hval hsz
  obtain ⟨v0, vs0, d0, ds0, p0, q0, hargs, rfl, rfl, h0, r0⟩ := trodAll_cons hA
  obtain ⟨v1, vs1, d1, ds1, p1, q1, rfl, rfl, rfl, h1, r1⟩ := trodAll_cons r0
  obtain ⟨rfl, rfl, rfl⟩ := trodAll_nil r1
  obtain rfl : args = #[v0, v1] := by cases args; simp_all
  refine ⟨rfl, ?_⟩
  obtain ⟨a0, rfl, rfl, rfl, w0⟩ := open_int Try.underlying3 (hval 0 3 v0 rfl rfl) h0
  obtain ⟨A1, n1, c1, l1, rfl, hx1⟩ := open_ops10 (hval 1 38 v1 rfl rfl) h1 (fun x hx => hlt x (by simp [hx]))
  exact lcounts_any a0 A1 n1 c1 l1 W (fit_of_wf w0) hx1

set_option maxRecDepth 100000 in
theorem lcounts_lifted (os : Os) (started : os.Started) (H : Type) (enc : TypeId × Value → H) :
    ReturnsInHanded {} Try.checked os 4 .any (Rows.semaCountsSpec.pre6 enc Try.prog Try.f4 Rows.semaCountsRow.domain false) (Rows.semaCountsSpec.post enc Try.prog Try.f4 false true false false) :=
  law_lifted os started 4 Try.f4 Rows.semaCountsSpec rfl rfl (by kernel_rfl) Try.func4 (by kernel_rfl) (by kernel_rfl)
    (ChangeSpec.witness6 (enc := enc) (C := Try.checked) false ⟨#[], #[.int .i64 0, .slice none 0 0], []⟩ 8 (by kernel_rfl) (by kernel_rfl) (by kernel_rfl) (by kernel_rfl))
    (lcounts_gives enc)

set_option maxRecDepth 100000 in
theorem SemaCounts_holds : Rows.SemaCountsSaid :=
  OpenClaim.holds_of_wide 4 Try.f4 rfl rfl rfl rfl rfl rfl rfl ⟨rfl, rfl, rfl, rfl, rfl⟩ rfl rfl rfl rfl rfl (by kernel_rfl) Try.func4 (by kernel_rfl)
    (of_decide_eq_true (by kernel_rfl)) (by unfold Func.isWrapper; first | (rw [if_pos (by decide +kernel)]; kernel_rfl) | (rw [if_neg (by decide +kernel)]; exact ⟨rfl, rfl⟩))
    (fun os started H enc _ => lcounts_lifted os started H enc)

#print axioms SemaCounts_holds
end Go.Proofs.Ytokmogfnliccjaa

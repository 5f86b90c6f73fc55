/-
  The law SemaFree of layer 10 holds, for every input: as many as are free may take a semaphore, one after the other, and the next one waits. No condition beyond the row's own.
-/
import Derived.Test.YtokmogfnliccjaaLFree
import Derived.Test.YtokmogfnliccjaaPRowM
namespace Go.Proofs.Ytokmogfnliccjaa
open Go.ChangeShapes Go.WideShapes Go.ChangeAt Go.RowKit

set_option maxRecDepth 100000 in
theorem lfree_gives {H : Type} (enc : TypeId × Value → H) : Gives enc 7 Try.f7.params.toList Rows.semaFreeSpec := by
  intro W base args ds p hval hA hsz hlt
  rw [Try.params7] at hA hval hsz
  obtain ⟨v0, vs0, d0, ds0, p0, q0, hargs, rfl, rfl, h0, r0⟩ := trodAll_cons hA
  obtain ⟨v1, vs1, d1, ds1, p1, q1, rfl, rfl, rfl, h1, r1⟩ := trodAll_cons r0
  obtain ⟨rfl, rfl, rfl⟩ := trodAll_nil r1
  obtain rfl : args = #[v0, v1] := by cases args; simp_all
  refine ⟨rfl, ?_⟩
  obtain ⟨a0, rfl, rfl, rfl, w0⟩ := open_int Try.underlying3 (hval 0 3 v0 rfl rfl) h0
  obtain ⟨A1, n1, c1, zs1, rfl, hm1, hx1⟩ := open_i64s (hval 1 22 v1 rfl rfl) h1 (fun x hx => hlt x (by simp [hx]))
  exact lfree_any a0 A1 n1 c1 zs1 W (fit_of_wf w0) hm1 hx1

set_option maxRecDepth 100000 in
theorem lfree_lifted (os : Os) (started : os.Started) (H : Type) (enc : TypeId × Value → H) :
    ReturnsInHanded {} Try.checked os 7 .any (Rows.semaFreeSpec.pre6 enc Try.prog Try.f7 Rows.semaFreeRow.domain false) (Rows.semaFreeSpec.post enc Try.prog Try.f7 false true false false) :=
  law_lifted os started 7 Try.f7 Rows.semaFreeSpec rfl rfl (by kernel_rfl) Try.func7 (by kernel_rfl) (by kernel_rfl)
    (ChangeSpec.witness6 (enc := enc) (C := Try.checked) false ⟨#[], #[.int .i64 0, .slice none 0 0], []⟩ 8 (by kernel_rfl) (by kernel_rfl) (by kernel_rfl) (by kernel_rfl))
    (lfree_gives enc)

set_option maxRecDepth 100000 in
theorem SemaFree_holds : Rows.SemaFreeSaid :=
  OpenClaim.holds_of_wide 7 Try.f7 rfl rfl rfl rfl rfl rfl rfl ⟨rfl, rfl, rfl, rfl, rfl⟩ rfl rfl rfl rfl rfl (by kernel_rfl) Try.func7 (by kernel_rfl)
    (of_decide_eq_true (by kernel_rfl)) (by unfold Func.isWrapper; first | (rw [if_pos (by decide +kernel)]; kernel_rfl) | (rw [if_neg (by decide +kernel)]; exact ⟨rfl, rfl⟩))
    (fun os started H enc _ => lfree_lifted os started H enc)

#print axioms SemaFree_holds
end Go.Proofs.Ytokmogfnliccjaa

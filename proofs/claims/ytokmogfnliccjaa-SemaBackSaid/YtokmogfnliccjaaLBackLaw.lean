/-
  The law SemaBack of layer 10 holds, for every input: a semaphore that is taken, and given, is as it was, if it was free; who waits, and is dropped, leaves it as it was. No condition beyond the row's own.
-/
import Derived.Test.YtokmogfnliccjaaLBack
import Derived.Test.YtokmogfnliccjaaPRowM
namespace Go.Proofs.Ytokmogfnliccjaa
open Go.ChangeShapes Go.WideShapes Go.ChangeAt Go.RowKit

set_option maxRecDepth 100000 in
theorem lback_gives {H : Type} (enc : TypeId × Value → H) : Gives enc 5 Try.f5.params.toList Rows.semaBackSpec := by
  intro W base args ds p hval hA hsz hlt
  rw [Try.params5] at hA hval hsz
  obtain ⟨v0, vs0, d0, ds0, p0, q0, hargs, rfl, rfl, h0, r0⟩ := trodAll_cons hA
  obtain ⟨v1, vs1, d1, ds1, p1, q1, rfl, rfl, rfl, h1, r1⟩ := trodAll_cons r0
  obtain ⟨rfl, rfl, rfl⟩ := trodAll_nil r1
  obtain rfl : args = #[v0, v1] := by cases args; simp_all
  refine ⟨rfl, ?_⟩
  obtain ⟨z0, A0, n0, c0, l0, rfl, fz0, hc0, hx0⟩ := open_sem (hval 0 24 v0 rfl rfl) h0 (fun x hx => hlt x (by simp [hx]))
  obtain ⟨a1, rfl, rfl, rfl, w1⟩ := open_int Try.underlying2 (hval 1 2 v1 rfl rfl) h1
  exact lback_any z0 A0 n0 c0 l0 a1 W hc0 hx0 (fit_of_wf w1)

set_option maxRecDepth 100000 in
theorem lback_lifted (os : Os) (started : os.Started) (H : Type) (enc : TypeId × Value → H) :
    ReturnsInHanded {} Try.checked os 5 .any (Rows.semaBackSpec.pre6 enc Try.prog Try.f5 Rows.semaBackRow.domain false) (Rows.semaBackSpec.post enc Try.prog Try.f5 false true false false) :=
  law_lifted os started 5 Try.f5 Rows.semaBackSpec rfl rfl (by kernel_rfl) Try.func5 (by kernel_rfl) (by kernel_rfl)
    (ChangeSpec.witness6 (enc := enc) (C := Try.checked) false ⟨#[], #[.agg #[.int .i64 0, .slice none 0 0], .int .i64 0], []⟩ 8 (by kernel_rfl) (by kernel_rfl) (by kernel_rfl) (by kernel_rfl))
    (lback_gives enc)

set_option maxRecDepth 100000 in
theorem SemaBack_holds : Rows.SemaBackSaid :=
  OpenClaim.holds_of_wide 5 Try.f5 rfl rfl rfl rfl rfl rfl rfl ⟨rfl, rfl, rfl, rfl, rfl⟩ rfl rfl rfl rfl rfl (by kernel_rfl) Try.func5 (by kernel_rfl)
    (of_decide_eq_true (by kernel_rfl)) (by unfold Func.isWrapper; first | (rw [if_pos (by decide +kernel)]; kernel_rfl) | (rw [if_neg (by decide +kernel)]; exact ⟨rfl, rfl⟩))
    (fun os started H enc _ => lback_lifted os started H enc)

#print axioms SemaBack_holds
end Go.Proofs.Ytokmogfnliccjaa

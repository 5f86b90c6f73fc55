/-
  The law FairWakes of layer 15 holds, for every input: who is waked is no farther behind than the least of those that are busy; all others stay. No condition beyond the row's own.
-/
import Derived.Test.YtnmllekbajeenaaLfWakes
import Derived.Test.YtnmllekbajeenaaPRowTn
import Derived.Test.YtnmllekbajeenaaPRowF
namespace Go.Proofs.Ytnmllekbajeenaa
open Go.ChangeShapes Go.WideShapes Go.ChangeAt Go.RowKit

set_option maxRecDepth 100000 in
theorem fairwakes_gives {H : Type} (enc : TypeId × Value → H) : Gives enc 5 Try.f5.params.toList Rows.fairWakesSpec := by
  intro W base args ds p hval hA hsz hlt
  rw [Try.params5] at hA hval hsz
  obtain ⟨v0, vs0, d0, ds0, p0, q0, hargs, rfl, rfl, h0, r0⟩ := trodAll_cons hA
  obtain ⟨v1, vs1, d1, ds1, p1, q1, rfl, rfl, rfl, h1, r1⟩ := trodAll_cons r0
  obtain ⟨v2, vs2, d2, ds2, p2, q2, rfl, rfl, rfl, h2, r2⟩ := trodAll_cons r1
  obtain ⟨rfl, rfl, rfl⟩ := trodAll_nil r2
  obtain rfl : args = #[v0, v1, v2] := by cases args; simp_all
  refine ⟨rfl, ?_⟩
  obtain ⟨A0, n0, c0, l0, rfl, hx0⟩ := open_tns (hval 0 22 v0 rfl rfl) h0 (fun x hx => hlt x (by simp [hx]))
  obtain ⟨a1, rfl, rfl, rfl, w1⟩ := open_int Try.underlying3 (hval 1 3 v1 rfl rfl) h1
  obtain ⟨A2, n2, c2, zs2, rfl, hm2, hx2⟩ := open_flags (hval 2 23 v2 rfl rfl) h2 (fun x hx => hlt x (by simp [hx]))
  exact fairwakes_any A0 A2 n0 c0 n2 c2 l0 a1 zs2 W hx0 (fit_of_wf w1) hx2

set_option maxRecDepth 100000 in
theorem fairwakes_lifted (os : Os) (started : os.Started) (H : Type) (enc : TypeId × Value → H) :
    ReturnsInHanded {} Try.checked os 5 .any (Rows.fairWakesSpec.pre6 enc Try.prog Try.f5 Rows.fairWakesRow.domain false) (Rows.fairWakesSpec.post enc Try.prog Try.f5 false true false false) :=
  law_lifted os started 5 Try.f5 Rows.fairWakesSpec rfl rfl (by kernel_rfl) Try.func5 (by kernel_rfl) (by kernel_rfl)
    (ChangeSpec.witness6 (enc := enc) (C := Try.checked) false ⟨#[], #[.slice none 0 0, .int .i64 0, .slice none 0 0], []⟩ 8 (by kernel_rfl) (by kernel_rfl) (by kernel_rfl) (by kernel_rfl))
    (fairwakes_gives enc)

set_option maxRecDepth 100000 in
theorem FairWakes_holds : Rows.FairWakesSaid :=
  OpenClaim.holds_of_wide 5 Try.f5 rfl rfl rfl rfl rfl rfl rfl ⟨rfl, rfl, rfl, rfl, rfl⟩ rfl rfl rfl rfl rfl (by kernel_rfl) Try.func5 (by kernel_rfl)
    (of_decide_eq_true (by kernel_rfl)) (by unfold Func.isWrapper; first | (rw [if_pos (by decide +kernel)]; kernel_rfl) | (rw [if_neg (by decide +kernel)]; exact ⟨rfl, rfl⟩))
    (fun os started H enc _ => fairwakes_lifted os started H enc)

#print axioms FairWakes_holds
end Go.Proofs.Ytnmllekbajeenaa

/-
  The law CellRuns of layer 1 holds, for every input: any accesses, one by one, come to what the document says. No condition beyond the row's own.
-/
import Derived.Test.YtmmilceemnggiaaCRuns
import Derived.Test.YtmmilceemnggiaaCRow
import Derived.Test.YtmmilceemnggiaaCMics
namespace Go.Proofs.Ytmmilceemnggiaa
open Go.ChangeShapes Go.WideShapes Go.ChangeAt Go.RowKit

theorem runs_gives {H : Type} (enc : TypeId × Value → H) : Gives enc 5 Try.f5.params.toList Rows.cellRunsSpec := by
  intro W base args ds p hval hA hsz hlt
  rw [Try.params5] at hA hval hsz
  obtain ⟨v0, vs0, d0, ds0, p0, q0, hargs, rfl, rfl, h0, r0⟩ := trodAll_cons hA
  obtain ⟨v1, vs1, d1, ds1, p1, q1, rfl, rfl, rfl, h1, r1⟩ := trodAll_cons r0
  obtain ⟨rfl, rfl, rfl⟩ := trodAll_nil r1
  obtain rfl : args = #[v0, v1] := by cases args; simp_all
  refine ⟨rfl, ?_⟩
  obtain ⟨A0, n0, c0, zs0, rfl, hx0⟩ := open_mem Try.underlying23 (hval 0 23 v0 rfl rfl) h0 (fun x hx => hlt x (by simp [hx])) hsz (j := 0) rfl rfl
  obtain ⟨A1, n1, c1, l1, rfl, hx1⟩ := open_mics Try.underlying43 (hval 1 43 v1 rfl rfl) h1 (fun x hx => hlt x (by simp [hx])) hsz (j := 1) rfl rfl
  exact runs_any A0 A1 n0 c0 n1 c1 zs0 l1 W hx0 hx1

set_option maxRecDepth 100000 in
theorem runs_lifted (os : Os) (started : os.Started) (H : Type) (enc : TypeId × Value → H) :
    ReturnsInHanded {} Try.checked os 5 .any (Rows.cellRunsSpec.pre6 enc Try.prog Try.f5 Rows.cellRunsRow.domain false) (Rows.cellRunsSpec.post enc Try.prog Try.f5 false true false false) :=
  law_lifted os started 5 Try.f5 Rows.cellRunsSpec rfl rfl (by kernel_rfl) Try.func5 (by kernel_rfl) (by kernel_rfl)
    (ChangeSpec.witness6 (enc := enc) (C := Try.checked) false ⟨#[], #[.slice none 0 0, .slice none 0 0], []⟩ 8 (by kernel_rfl) (by kernel_rfl) (by kernel_rfl) (by kernel_rfl))
    (runs_gives enc)

theorem CellRuns_holds : Rows.CellRunsSaid :=
  OpenClaim.holds_of_wide 5 Try.f5 rfl rfl rfl rfl rfl rfl rfl ⟨rfl, rfl, rfl, rfl, rfl⟩ rfl rfl rfl rfl rfl (by kernel_rfl) Try.func5 (by kernel_rfl)
    (of_decide_eq_true (by kernel_rfl)) (by unfold Func.isWrapper; first | (rw [if_pos (by decide +kernel)]; kernel_rfl) | (rw [if_neg (by decide +kernel)]; exact ⟨rfl, rfl⟩))
    (fun os started H enc _ => runs_lifted os started H enc)

#print axioms CellRuns_holds
end Go.Proofs.Ytmmilceemnggiaa

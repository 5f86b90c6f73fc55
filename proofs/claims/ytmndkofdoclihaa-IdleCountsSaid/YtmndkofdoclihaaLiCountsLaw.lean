/-
  The law IdleCounts of layer 17 holds, for every input: all four kinds together are all workers; Stack has as many as are about to park, or have; no more spin than may. No condition beyond the row's own.
-/
import Derived.Test.YtmndkofdoclihaaLiCounts
import Derived.Test.YtmndkofdoclihaaPRowWo
namespace Go.Proofs.Ytmndkofdoclihaa
open Go.ChangeShapes Go.WideShapes Go.ChangeAt Go.RowKit

set_option maxRecDepth 100000 in
theorem idlecounts_gives {H : Type} (enc : TypeId × Value → H) : Gives enc 5 Try.f5.params.toList Rows.idleCountsSpec := by
  intro W base args ds p hval hA hsz hlt
  rw [Try.params5] at hA hval hsz
  obtain ⟨v0, vs0, d0, ds0, p0, q0, hargs, rfl, rfl, h0, r0⟩ := trodAll_cons hA
  obtain ⟨rfl, rfl, rfl⟩ := trodAll_nil r0
  obtain rfl : args = #[v0] := by cases args; simp_all
  refine ⟨rfl, ?_⟩
  obtain ⟨A0, n0, c0, B0, m0, e0, is0, st0, rfl, hi0, hs0⟩ := open_idle (hval 0 24 v0 rfl rfl) h0 (fun x hx => hlt x (by simp [hx])) hsz (j := 0) rfl rfl
  exact idlecounts_any A0 B0 n0 c0 m0 e0 is0 st0 W hi0 hs0

set_option maxRecDepth 100000 in
theorem idlecounts_lifted (os : Os) (started : os.Started) (H : Type) (enc : TypeId × Value → H) :
    ReturnsInHanded {} Try.checked os 5 .any (Rows.idleCountsSpec.pre6 enc Try.prog Try.f5 Rows.idleCountsRow.domain false) (Rows.idleCountsSpec.post enc Try.prog Try.f5 false true false false) :=
  law_lifted os started 5 Try.f5 Rows.idleCountsSpec rfl rfl (by kernel_rfl) Try.func5 (by kernel_rfl) (by kernel_rfl)
    (ChangeSpec.witness6 (enc := enc) (C := Try.checked) false ⟨#[], #[.agg #[.slice none 0 0, .slice none 0 0]], []⟩ 8 (by kernel_rfl) (by kernel_rfl) (by kernel_rfl) (by kernel_rfl))
    (idlecounts_gives enc)

set_option maxRecDepth 100000 in
theorem IdleCounts_holds : Rows.IdleCountsSaid :=
  OpenClaim.holds_of_wide 5 Try.f5 rfl rfl rfl rfl rfl rfl rfl ⟨rfl, rfl, rfl, rfl, rfl⟩ rfl rfl rfl rfl rfl (by kernel_rfl) Try.func5 (by kernel_rfl)
    (of_decide_eq_true (by kernel_rfl)) (by unfold Func.isWrapper; first | (rw [if_pos (by decide +kernel)]; kernel_rfl) | (rw [if_neg (by decide +kernel)]; exact ⟨rfl, rfl⟩))
    (fun os started H enc _ => idlecounts_lifted os started H enc)

#print axioms IdleCounts_holds
end Go.Proofs.Ytmndkofdoclihaa

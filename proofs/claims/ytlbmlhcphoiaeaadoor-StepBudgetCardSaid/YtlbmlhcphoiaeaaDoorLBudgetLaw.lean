/-
  The tied card of the law StepBudget of layer 13 holds, for every input, where the table of states reads as the program's own text lays it: a slice does as many units as its budget says, or as it takes to ask for something, and so many fewer are left. No condition beyond the row's own.
-/
import Derived.Test.YtlbmlhcphoiaeaaDoorLBudget
import Derived.Test.YtlbmlhcphoiaeaaDoorPRowP
import Derived.Test.YtlbmlhcphoiaeaaDoorCards
import Derived.Test.YtlbmlhcphoiaeaaDoorTie
import Derived.SevenTiedAt
namespace Go.Proofs.YtlbmlhcphoiaeaaDoor
open Go.ChangeShapes Go.WideShapes Go.ChangeAt Go.RowKit

set_option maxRecDepth 100000 in
theorem lbudget_gives {H : Type} (enc : TypeId × Value → H) : GivesL Fol enc 8 Tryd.f8.params.toList Rows.stepBudgetSpec := by
  intro W base args ds p hval hA hsz hlt hL
  rw [Tryd.params8] at hA hval hsz
  obtain ⟨v0, vs0, d0, ds0, p0, q0, hargs, rfl, rfl, h0, r0⟩ := trodAll_cons hA
  obtain ⟨v1, vs1, d1, ds1, p1, q1, rfl, rfl, rfl, h1, r1⟩ := trodAll_cons r0
  obtain ⟨v2, vs2, d2, ds2, p2, q2, rfl, rfl, rfl, h2, r2⟩ := trodAll_cons r1
  obtain ⟨rfl, rfl, rfl⟩ := trodAll_nil r2
  obtain rfl : args = #[v0, v1, v2] := by cases args; simp_all
  refine ⟨rfl, ?_⟩
  obtain ⟨a0, b0, c0, d0', e0, f0, g0, i0, j0, k0, l0, rfl⟩ := open_task (hval 0 24 v0 rfl rfl) h0
  obtain ⟨A1, n1, c1, l1, rfl, hx1⟩ := open_prog (hval 1 25 v1 rfl rfl) h1 (fun x hx => hlt x (by simp [hx]))
  obtain ⟨a2, rfl, rfl, rfl, w2⟩ := open_int Tryd.underlying3 (hval 2 3 v2 rfl rfl) h2
  exact lbudget_any ⟨a0, b0, c0, d0', e0, f0, g0, i0, j0, k0, l0⟩ A1 n1 c1 l1 a2 W hx1 hL

set_option maxRecDepth 100000 in
theorem lbudget_lifted (os : Os) (started : os.Started) (H : Type) (enc : TypeId × Value → H) :
    ReturnsInHanded {} Tryd.checked os 8 .any (fun w args => (Rows.stepBudgetSpec.pre enc Tryd.prog Tryd.f8 Rows.stepBudgetRow.domain false w args ∧ laidMetH Tryd.prog [("ravel/life.follows", Rows.laid_ravel_life_follows)] w) ∧ sizedMet enc Tryd.prog Tryd.f8 (OpenSpec.ofChange Rows.stepBudgetSpec) false w args) (Rows.stepBudgetSpec.post enc Tryd.prog Tryd.f8 false true false false) :=
  lawL_lifted os started 8 Tryd.f8 Rows.stepBudgetSpec [("ravel/life.follows", Rows.laid_ravel_life_follows)] Fol fol_of_laid rfl rfl (by kernel_rfl) Tryd.func8 (by kernel_rfl) (by kernel_rfl)
    (ChangeSpec.witness_shaped (enc := enc) (C := Tryd.checked) (os := os) (X := fun w _ => laidMetH Tryd.prog [("ravel/life.follows", Rows.laid_ravel_life_follows)] w) false (World.laidAll Tryd.prog os [("ravel/life.follows", Rows.laid_ravel_life_follows)]) #[.agg #[.int .i64 0, .int .i64 0, .int .i64 0, .int .i64 0, .int .i64 0, .int .i64 0, .int .i64 0, .int .i64 0, .int .i64 0, .int .i64 0, .int .i64 0], .slice none 0 0, .int .i64 0] 8 (World.laidAll_os _ _ _)
      (World.shaped_of_ZipB (by kernel_rfl) (by kernel_rfl)) (by kernel_rfl) (by kernel_rfl) (by kernel_rfl) (by rw [MakeChecks.laidMetH_plain _ _ _ (by kernel_rfl)]; exact laidMet_laidAll _ (by kernel_rfl) (by kernel_rfl)))
    (lbudget_gives enc)

set_option maxRecDepth 100000 in
theorem StepBudget_row : Rows.StepBudgetSaid :=
  OpenClaim.holds_of_wide 8 Tryd.f8 rfl rfl rfl rfl rfl rfl rfl ⟨rfl, rfl, rfl, rfl, rfl⟩ rfl rfl rfl rfl rfl (by kernel_rfl) Tryd.func8 (by kernel_rfl)
    (of_decide_eq_true (by kernel_rfl)) (by unfold Func.isWrapper; first | (rw [if_pos (by decide +kernel)]; kernel_rfl) | (rw [if_neg (by decide +kernel)]; exact ⟨rfl, rfl⟩))
    (fun os started H enc _ => lbudget_lifted os started H enc)

set_option maxRecDepth 100000 in
theorem StepBudget_holds : Rows.StepBudgetCardSaid :=
  Claim7.holds_tied_plain_at .later [] [.data] true Rows.stepBudgetCard.stood.harness false
    StepBudget_row (fun _ h => by cases h) (by kernel_rfl) (fun _ h => by cases h) stepBudget_row_tie rfl ⟨rfl, rfl⟩ (by kernel_rfl) (by kernel_rfl)
    (fun f fn hf hfn => by
      obtain rfl : f = 8 := Option.some.inj ((show Tryd.prog.funcNamed "ravel/ravellaw13.StepBudget" = some 8 by kernel_rfl).symm.trans hf) |>.symm
      obtain rfl : fn = Tryd.f8 := (Option.some.inj (Tryd.func8.symm.trans hfn)).symm
      exact ⟨by kernel_rfl, fun j t ht => by
        rw [Tryd.params8] at ht
        have hm : t ∈ [24, 25, 3] := by simpa using Array.mem_of_getElem? ht
        have hall : ([24, 25, 3].all fun u => !Tryd.prog.wantsStandIn u) = true := by kernel_rfl
        exact (show Tryd.prog.wantsStandIn t = false by simpa using List.all_eq_true.1 hall t hm)⟩)
    (by kernel_rfl)

#print axioms StepBudget_holds
end Go.Proofs.YtlbmlhcphoiaeaaDoor

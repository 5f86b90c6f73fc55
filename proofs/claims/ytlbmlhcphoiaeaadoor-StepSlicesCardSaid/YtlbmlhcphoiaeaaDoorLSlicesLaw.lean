/-
  The tied card of the law StepSlices of layer 13 holds, for every input, where the table of states reads as the program's own text lays it: slices of whatever budgets come to the same as unit by unit. No condition beyond the row's own.
-/
import Derived.Test.YtlbmlhcphoiaeaaDoorLSlices
import Derived.Test.YtlbmlhcphoiaeaaDoorPRowP
import Derived.Test.YtlbmlhcphoiaeaaDoorOpenOct
import Derived.Test.YtlbmlhcphoiaeaaDoorCards
import Derived.Test.YtlbmlhcphoiaeaaDoorTie
import Derived.SevenTiedAt
namespace Go.Proofs.YtlbmlhcphoiaeaaDoor
open Go.ChangeShapes Go.WideShapes Go.ChangeAt Go.RowKit

set_option maxRecDepth 100000 in
theorem lslices_gives {H : Type} (enc : TypeId × Value → H) : GivesL Fol enc 5 Tryd.f5.params.toList Rows.stepSlicesSpec := by
  intro W base args ds p hval hA hsz hlt hL
  rw [Tryd.params5] at hA hval hsz
  obtain ⟨v0, vs0, d0, ds0, p0, q0, hargs, rfl, rfl, h0, r0⟩ := trodAll_cons hA
  obtain ⟨v1, vs1, d1, ds1, p1, q1, rfl, rfl, rfl, h1, r1⟩ := trodAll_cons r0
  obtain ⟨v2, vs2, d2, ds2, p2, q2, rfl, rfl, rfl, h2, r2⟩ := trodAll_cons r1
  obtain ⟨rfl, rfl, rfl⟩ := trodAll_nil r2
  obtain rfl : args = #[v0, v1, v2] := by cases args; simp_all
  refine ⟨rfl, ?_⟩
  obtain ⟨a0, rfl, rfl, rfl, w0⟩ := open_int Tryd.underlying2 (hval 0 2 v0 rfl rfl) h0
  obtain ⟨A1, n1, c1, l1, rfl, hx1⟩ := open_prog (hval 1 25 v1 rfl rfl) h1 (fun x hx => hlt x (by simp [hx]))
  obtain ⟨A2, n2, c2, l2, rfl, hm2, hx2⟩ := open_octs Tryd.underlying46 (hval 2 46 v2 rfl rfl) h2 (fun x hx => hlt x (by simp [hx]))
  exact lslices_any a0 A1 n1 c1 l1 A2 n2 c2 l2 W hx1 hm2 hx2 hL

set_option maxRecDepth 100000 in
theorem lslices_lifted (os : Os) (started : os.Started) (H : Type) (enc : TypeId × Value → H) :
    ReturnsInHanded {} Tryd.checked os 5 .any (fun w args => (Rows.stepSlicesSpec.pre enc Tryd.prog Tryd.f5 Rows.stepSlicesRow.domain false w args ∧ laidMetH Tryd.prog [("ravel/life.follows", Rows.laid_ravel_life_follows)] w) ∧ sizedMet enc Tryd.prog Tryd.f5 (OpenSpec.ofChange Rows.stepSlicesSpec) false w args) (Rows.stepSlicesSpec.post enc Tryd.prog Tryd.f5 false true false false) :=
  lawL_lifted os started 5 Tryd.f5 Rows.stepSlicesSpec [("ravel/life.follows", Rows.laid_ravel_life_follows)] Fol fol_of_laid rfl rfl (by kernel_rfl) Tryd.func5 (by kernel_rfl) (by kernel_rfl)
    (ChangeSpec.witness_shaped (enc := enc) (C := Tryd.checked) (os := os) (X := fun w _ => laidMetH Tryd.prog [("ravel/life.follows", Rows.laid_ravel_life_follows)] w) false (World.laidAll Tryd.prog os [("ravel/life.follows", Rows.laid_ravel_life_follows)]) #[.int .i64 0, .slice none 0 0, .slice none 0 0] 8 (World.laidAll_os _ _ _)
      (World.shaped_of_ZipB (by kernel_rfl) (by kernel_rfl)) (by kernel_rfl) (by kernel_rfl) (by kernel_rfl) (by rw [MakeChecks.laidMetH_plain _ _ _ (by kernel_rfl)]; exact laidMet_laidAll _ (by kernel_rfl) (by kernel_rfl)))
    (lslices_gives enc)

set_option maxRecDepth 100000 in
theorem StepSlices_row : Rows.StepSlicesSaid :=
  OpenClaim.holds_of_wide 5 Tryd.f5 rfl rfl rfl rfl rfl rfl rfl ⟨rfl, rfl, rfl, rfl, rfl⟩ rfl rfl rfl rfl rfl (by kernel_rfl) Tryd.func5 (by kernel_rfl)
    (of_decide_eq_true (by kernel_rfl)) (by unfold Func.isWrapper; first | (rw [if_pos (by decide +kernel)]; kernel_rfl) | (rw [if_neg (by decide +kernel)]; exact ⟨rfl, rfl⟩))
    (fun os started H enc _ => lslices_lifted os started H enc)

set_option maxRecDepth 100000 in
theorem StepSlices_holds : Rows.StepSlicesCardSaid :=
  Claim7.holds_tied_plain_at .later [] [.data] true Rows.stepSlicesCard.stood.harness false
    StepSlices_row (fun _ h => by cases h) (by kernel_rfl) (fun _ h => by cases h) stepSlices_row_tie rfl ⟨rfl, rfl⟩ (by kernel_rfl) (by kernel_rfl)
    (fun f fn hf hfn => by
      obtain rfl : f = 5 := Option.some.inj ((show Tryd.prog.funcNamed "ravel/ravellaw13.StepSlices" = some 5 by kernel_rfl).symm.trans hf) |>.symm
      obtain rfl : fn = Tryd.f5 := (Option.some.inj (Tryd.func5.symm.trans hfn)).symm
      exact ⟨by kernel_rfl, fun j t ht => by
        rw [Tryd.params5] at ht
        have hm : t ∈ [2, 25, 46] := by simpa using Array.mem_of_getElem? ht
        have hall : ([2, 25, 46].all fun u => !Tryd.prog.wantsStandIn u) = true := by kernel_rfl
        exact (show Tryd.prog.wantsStandIn t = false by simpa using List.all_eq_true.1 hall t hm)⟩)
    (by kernel_rfl)

#print axioms StepSlices_holds
end Go.Proofs.YtlbmlhcphoiaeaaDoor

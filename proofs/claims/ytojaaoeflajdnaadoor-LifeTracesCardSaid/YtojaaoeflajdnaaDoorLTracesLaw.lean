/-
  The tied card of the law LifeTraces of layer 12 holds, for every input, where the table of states reads as the program's own text lays it: of any states which one may not follow first, or why not, is the document's. No condition beyond the row's own.
-/
import Derived.Test.YtojaaoeflajdnaaDoorLTraces
import Derived.Test.YtojaaoeflajdnaaDoorPRowK
import Derived.Test.YtojaaoeflajdnaaDoorCards
import Derived.Test.YtojaaoeflajdnaaDoorTie
import Derived.SevenTiedAt
namespace Go.Proofs.YtojaaoeflajdnaaDoor
open Go.ChangeShapes Go.WideShapes Go.ChangeAt Go.RowKit

set_option maxRecDepth 100000 in
theorem ltraces_gives {H : Type} (enc : TypeId × Value → H) : GivesL Fol enc 5 Tryd.f5.params.toList Rows.lifeTracesSpec := by
  intro W base args ds p hval hA hsz hlt hL
  rw [Tryd.params5] at hA hval hsz
  obtain ⟨v0, vs0, d0, ds0, p0, q0, hargs, rfl, rfl, h0, r0⟩ := trodAll_cons hA
  obtain ⟨rfl, rfl, rfl⟩ := trodAll_nil r0
  obtain rfl : args = #[v0] := by cases args; simp_all
  refine ⟨rfl, ?_⟩
  obtain ⟨A0, n0, c0, l0, rfl, hx0, hc0⟩ := open_numc Tryd.underlying35 (hval 0 35 v0 rfl rfl) h0 (fun x hx => hlt x (by simp [hx])) hsz (j := 0) rfl rfl
  exact ltraces_any A0 n0 c0 l0 W hx0 hc0 hL

set_option maxRecDepth 100000 in
theorem ltraces_lifted (os : Os) (started : os.Started) (H : Type) (enc : TypeId × Value → H) :
    ReturnsInHanded {} Tryd.checked os 5 .any (fun w args => (Rows.lifeTracesSpec.pre enc Tryd.prog Tryd.f5 Rows.lifeTracesRow.domain false w args ∧ laidMetH Tryd.prog [("ravel/life.follows", Rows.laid_ravel_life_follows)] w) ∧ sizedMet enc Tryd.prog Tryd.f5 (OpenSpec.ofChange Rows.lifeTracesSpec) false w args) (Rows.lifeTracesSpec.post enc Tryd.prog Tryd.f5 false true false false) :=
  lawL_lifted os started 5 Tryd.f5 Rows.lifeTracesSpec [("ravel/life.follows", Rows.laid_ravel_life_follows)] Fol fol_of_laid rfl rfl (by kernel_rfl) Tryd.func5 (by kernel_rfl) (by kernel_rfl)
    (ChangeSpec.witness_shaped (enc := enc) (C := Tryd.checked) (os := os) (X := fun w _ => laidMetH Tryd.prog [("ravel/life.follows", Rows.laid_ravel_life_follows)] w) false (World.laidAll Tryd.prog os [("ravel/life.follows", Rows.laid_ravel_life_follows)]) #[.slice none 0 0] 8 (World.laidAll_os _ _ _)
      (World.shaped_of_ZipB (by kernel_rfl) (by kernel_rfl)) (by kernel_rfl) (by kernel_rfl) (by kernel_rfl) (by rw [MakeChecks.laidMetH_plain _ _ _ (by kernel_rfl)]; exact laidMet_laidAll _ (by kernel_rfl) (by kernel_rfl)))
    (ltraces_gives enc)

set_option maxRecDepth 100000 in
theorem LifeTraces_row : Rows.LifeTracesSaid :=
  OpenClaim.holds_of_wide 5 Tryd.f5 rfl rfl rfl rfl rfl rfl rfl ⟨rfl, rfl, rfl, rfl, rfl⟩ rfl rfl rfl rfl rfl (by kernel_rfl) Tryd.func5 (by kernel_rfl)
    (of_decide_eq_true (by kernel_rfl)) (by unfold Func.isWrapper; first | (rw [if_pos (by decide +kernel)]; kernel_rfl) | (rw [if_neg (by decide +kernel)]; exact ⟨rfl, rfl⟩))
    (fun os started H enc _ => ltraces_lifted os started H enc)

set_option maxRecDepth 100000 in
theorem LifeTraces_holds : Rows.LifeTracesCardSaid :=
  Claim7.holds_tied_plain_at .later [] [.data] true Rows.lifeTracesCard.stood.harness false
    LifeTraces_row (fun _ h => by cases h) (by kernel_rfl) (fun _ h => by cases h) lifeTraces_row_tie rfl ⟨rfl, rfl⟩ (by kernel_rfl) (by kernel_rfl)
    (fun f fn hf hfn => by
      obtain rfl : f = 5 := Option.some.inj ((show Tryd.prog.funcNamed "ravel/ravellaw12.LifeTraces" = some 5 by kernel_rfl).symm.trans hf) |>.symm
      obtain rfl : fn = Tryd.f5 := (Option.some.inj (Tryd.func5.symm.trans hfn)).symm
      exact ⟨by kernel_rfl, fun j t ht => by
        rw [Tryd.params5] at ht
        have hm : t ∈ [35] := by simpa using Array.mem_of_getElem? ht
        have hall : ([35].all fun u => !Tryd.prog.wantsStandIn u) = true := by kernel_rfl
        exact (show Tryd.prog.wantsStandIn t = false by simpa using List.all_eq_true.1 hall t hm)⟩)
    (by kernel_rfl)

#print axioms LifeTraces_holds
end Go.Proofs.YtojaaoeflajdnaaDoor

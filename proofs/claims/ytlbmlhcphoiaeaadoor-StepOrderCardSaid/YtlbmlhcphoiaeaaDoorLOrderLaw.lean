/-
  The tied card of the law StepOrder of layer 13 holds, for every input, where the table of states reads as the program's own text lays it: a task does its program's units in order, each once. No condition beyond the row's own.
-/
import Derived.Test.YtlbmlhcphoiaeaaDoorLOrder
import Derived.Test.YtlbmlhcphoiaeaaDoorPRowP
import Derived.Test.YtlbmlhcphoiaeaaDoorCards
import Derived.Test.YtlbmlhcphoiaeaaDoorTie
import Derived.SevenTiedAt
namespace Go.Proofs.YtlbmlhcphoiaeaaDoor
open Go.ChangeShapes Go.WideShapes Go.ChangeAt Go.RowKit

set_option maxRecDepth 100000 in
theorem lorder_gives {H : Type} (enc : TypeId × Value → H) : GivesL Fol enc 4 Tryd.f4.params.toList Rows.stepOrderSpec := by
  intro W base args ds p hval hA hsz hlt hL
  rw [Tryd.params4] at hA hval hsz
  obtain ⟨v0, vs0, d0, ds0, p0, q0, hargs, rfl, rfl, h0, r0⟩ := trodAll_cons hA
  obtain ⟨v1, vs1, d1, ds1, p1, q1, rfl, rfl, rfl, h1, r1⟩ := trodAll_cons r0
  obtain ⟨rfl, rfl, rfl⟩ := trodAll_nil r1
  obtain rfl : args = #[v0, v1] := by cases args; simp_all
  refine ⟨rfl, ?_⟩
  obtain ⟨a0, rfl, rfl, rfl, w0⟩ := open_int Tryd.underlying2 (hval 0 2 v0 rfl rfl) h0
  obtain ⟨A1, n1, c1, l1, rfl, hx1⟩ := open_prog (hval 1 25 v1 rfl rfl) h1 (fun x hx => hlt x (by simp [hx]))
  exact lorder_any a0 A1 n1 c1 l1 W hx1 hL

set_option maxRecDepth 100000 in
theorem lorder_lifted (os : Os) (started : os.Started) (H : Type) (enc : TypeId × Value → H) :
    ReturnsInHanded {} Tryd.checked os 4 .any (fun w args => (Rows.stepOrderSpec.pre enc Tryd.prog Tryd.f4 Rows.stepOrderRow.domain false w args ∧ laidMetH Tryd.prog [("ravel/life.follows", Rows.laid_ravel_life_follows)] w) ∧ sizedMet enc Tryd.prog Tryd.f4 (OpenSpec.ofChange Rows.stepOrderSpec) false w args) (Rows.stepOrderSpec.post enc Tryd.prog Tryd.f4 false true false false) :=
  lawL_lifted os started 4 Tryd.f4 Rows.stepOrderSpec [("ravel/life.follows", Rows.laid_ravel_life_follows)] Fol fol_of_laid rfl rfl (by kernel_rfl) Tryd.func4 (by kernel_rfl) (by kernel_rfl)
    (ChangeSpec.witness_shaped (enc := enc) (C := Tryd.checked) (os := os) (X := fun w _ => laidMetH Tryd.prog [("ravel/life.follows", Rows.laid_ravel_life_follows)] w) false (World.laidAll Tryd.prog os [("ravel/life.follows", Rows.laid_ravel_life_follows)]) #[.int .i64 0, .slice none 0 0] 8 (World.laidAll_os _ _ _)
      (World.shaped_of_ZipB (by kernel_rfl) (by kernel_rfl)) (by kernel_rfl) (by kernel_rfl) (by kernel_rfl) (by rw [MakeChecks.laidMetH_plain _ _ _ (by kernel_rfl)]; exact laidMet_laidAll _ (by kernel_rfl) (by kernel_rfl)))
    (lorder_gives enc)

set_option maxRecDepth 100000 in
theorem StepOrder_row : Rows.StepOrderSaid :=
  OpenClaim.holds_of_wide 4 Tryd.f4 rfl rfl rfl rfl rfl rfl rfl ⟨rfl, rfl, rfl, rfl, rfl⟩ rfl rfl rfl rfl rfl (by kernel_rfl) Tryd.func4 (by kernel_rfl)
    (of_decide_eq_true (by kernel_rfl)) (by unfold Func.isWrapper; first | (rw [if_pos (by decide +kernel)]; kernel_rfl) | (rw [if_neg (by decide +kernel)]; exact ⟨rfl, rfl⟩))
    (fun os started H enc _ => lorder_lifted os started H enc)

set_option maxRecDepth 100000 in
theorem StepOrder_holds : Rows.StepOrderCardSaid :=
  Claim7.holds_tied_plain_at .later [] [.data] true Rows.stepOrderCard.stood.harness false
    StepOrder_row (fun _ h => by cases h) (by kernel_rfl) (fun _ h => by cases h) stepOrder_row_tie rfl ⟨rfl, rfl⟩ (by kernel_rfl) (by kernel_rfl)
    (fun f fn hf hfn => by
      obtain rfl : f = 4 := Option.some.inj ((show Tryd.prog.funcNamed "ravel/ravellaw13.StepOrder" = some 4 by kernel_rfl).symm.trans hf) |>.symm
      obtain rfl : fn = Tryd.f4 := (Option.some.inj (Tryd.func4.symm.trans hfn)).symm
      exact ⟨by kernel_rfl, fun j t ht => by
        rw [Tryd.params4] at ht
        have hm : t ∈ [2, 25] := by simpa using Array.mem_of_getElem? ht
        have hall : ([2, 25].all fun u => !Tryd.prog.wantsStandIn u) = true := by kernel_rfl
        exact (show Tryd.prog.wantsStandIn t = false by simpa using List.all_eq_true.1 hall t hm)⟩)
    (by kernel_rfl)

#print axioms StepOrder_holds
end Go.Proofs.YtlbmlhcphoiaeaaDoor

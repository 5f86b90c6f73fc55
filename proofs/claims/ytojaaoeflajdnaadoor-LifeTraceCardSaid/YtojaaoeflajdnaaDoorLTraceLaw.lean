/-
  The tied card of the law LifeTrace of layer 12 holds, for every input, where the table of states reads as the program's own text lays it: of a trace each beginning is one; a state more goes on with it just if it may follow the last one. No condition beyond the row's own.
-/
import Derived.Test.YtojaaoeflajdnaaDoorLTrace
import Derived.Test.YtojaaoeflajdnaaDoorPRowK
import Derived.Test.YtojaaoeflajdnaaDoorCards
import Derived.Test.YtojaaoeflajdnaaDoorTie
import Derived.SevenTiedAt
namespace Go.Proofs.YtojaaoeflajdnaaDoor
open Go.ChangeShapes Go.WideShapes Go.ChangeAt Go.RowKit

set_option maxRecDepth 100000 in
theorem ltrace_gives {H : Type} (enc : TypeId × Value → H) : GivesL Fol enc 7 Tryd.f7.params.toList Rows.lifeTraceSpec := by
  intro W base args ds p hval hA hsz hlt hL
  rw [Tryd.params7] at hA hval hsz
  obtain ⟨v0, vs0, d0, ds0, p0, q0, hargs, rfl, rfl, h0, r0⟩ := trodAll_cons hA
  obtain ⟨v1, vs1, d1, ds1, p1, q1, rfl, rfl, rfl, h1, r1⟩ := trodAll_cons r0
  obtain ⟨rfl, rfl, rfl⟩ := trodAll_nil r1
  obtain rfl : args = #[v0, v1] := by cases args; simp_all
  refine ⟨rfl, ?_⟩
  obtain ⟨A0, n0, c0, l0, rfl, hx0, hc0⟩ := open_numc Tryd.underlying35 (hval 0 35 v0 rfl rfl) h0 (fun x hx => hlt x (by simp [hx])) hsz (j := 0) rfl rfl
  obtain ⟨a1, rfl, rfl, rfl, w1⟩ := open_int Tryd.underlying3 (hval 1 3 v1 rfl rfl) h1
  exact ltrace_any A0 n0 c0 l0 a1 W hx0 hc0 (fit_of_wf w1) hL

set_option maxRecDepth 100000 in
theorem ltrace_lifted (os : Os) (started : os.Started) (H : Type) (enc : TypeId × Value → H) :
    ReturnsInHanded {} Tryd.checked os 7 .any (fun w args => (Rows.lifeTraceSpec.pre enc Tryd.prog Tryd.f7 Rows.lifeTraceRow.domain false w args ∧ laidMetH Tryd.prog [("ravel/life.follows", Rows.laid_ravel_life_follows)] w) ∧ sizedMet enc Tryd.prog Tryd.f7 (OpenSpec.ofChange Rows.lifeTraceSpec) false w args) (Rows.lifeTraceSpec.post enc Tryd.prog Tryd.f7 false true false false) :=
  lawL_lifted os started 7 Tryd.f7 Rows.lifeTraceSpec [("ravel/life.follows", Rows.laid_ravel_life_follows)] Fol fol_of_laid rfl rfl (by kernel_rfl) Tryd.func7 (by kernel_rfl) (by kernel_rfl)
    (ChangeSpec.witness_shaped (enc := enc) (C := Tryd.checked) (os := os) (X := fun w _ => laidMetH Tryd.prog [("ravel/life.follows", Rows.laid_ravel_life_follows)] w) false (World.laidAll Tryd.prog os [("ravel/life.follows", Rows.laid_ravel_life_follows)]) #[.slice none 0 0, .int .i64 0] 8 (World.laidAll_os _ _ _)
      (World.shaped_of_ZipB (by kernel_rfl) (by kernel_rfl)) (by kernel_rfl) (by kernel_rfl) (by kernel_rfl) (by rw [MakeChecks.laidMetH_plain _ _ _ (by kernel_rfl)]; exact laidMet_laidAll _ (by kernel_rfl) (by kernel_rfl)))
    (ltrace_gives enc)

set_option maxRecDepth 100000 in
theorem LifeTrace_row : Rows.LifeTraceSaid :=
  OpenClaim.holds_of_wide 7 Tryd.f7 rfl rfl rfl rfl rfl rfl rfl ⟨rfl, rfl, rfl, rfl, rfl⟩ rfl rfl rfl rfl rfl (by kernel_rfl) Tryd.func7 (by kernel_rfl)
    (of_decide_eq_true (by kernel_rfl)) (by unfold Func.isWrapper; first | (rw [if_pos (by decide +kernel)]; kernel_rfl) | (rw [if_neg (by decide +kernel)]; exact ⟨rfl, rfl⟩))
    (fun os started H enc _ => ltrace_lifted os started H enc)

set_option maxRecDepth 100000 in
theorem LifeTrace_holds : Rows.LifeTraceCardSaid :=
  Claim7.holds_tied_plain_at .later [] [.data] true Rows.lifeTraceCard.stood.harness false
    LifeTrace_row (fun _ h => by cases h) (by kernel_rfl) (fun _ h => by cases h) lifeTrace_row_tie rfl ⟨rfl, rfl⟩ (by kernel_rfl) (by kernel_rfl)
    (fun f fn hf hfn => by
      obtain rfl : f = 7 := Option.some.inj ((show Tryd.prog.funcNamed "ravel/ravellaw12.LifeTrace" = some 7 by kernel_rfl).symm.trans hf) |>.symm
      obtain rfl : fn = Tryd.f7 := (Option.some.inj (Tryd.func7.symm.trans hfn)).symm
      exact ⟨by kernel_rfl, fun j t ht => by
        rw [Tryd.params7] at ht
        have hm : t ∈ [35, 3] := by simpa using Array.mem_of_getElem? ht
        have hall : ([35, 3].all fun u => !Tryd.prog.wantsStandIn u) = true := by kernel_rfl
        exact (show Tryd.prog.wantsStandIn t = false by simpa using List.all_eq_true.1 hall t hm)⟩)
    (by kernel_rfl)

#print axioms LifeTrace_holds
end Go.Proofs.YtojaaoeflajdnaaDoor

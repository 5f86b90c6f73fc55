/-
  The tied card of the law LifeKeeps of layer 12 holds, for every input, where the table of states reads as the program's own text lays it: what a task keeps in one place leaves all else of it; kept anew it is the new one. No condition beyond the row's own.
-/
import Derived.Test.YtojaaoeflajdnaaDoorLKeeps
import Derived.Test.YtojaaoeflajdnaaDoorPRowK
import Derived.Test.YtojaaoeflajdnaaDoorCards
import Derived.Test.YtojaaoeflajdnaaDoorTie
import Derived.SevenTiedAt
namespace Go.Proofs.YtojaaoeflajdnaaDoor
open Go.ChangeShapes Go.WideShapes Go.ChangeAt Go.RowKit

set_option maxRecDepth 100000 in
theorem lkeeps_gives {H : Type} (enc : TypeId × Value → H) : GivesL Fol enc 8 Tryd.f8.params.toList Rows.lifeKeepsSpec := by
  intro W base args ds p hval hA hsz hlt hL
  rw [Tryd.params8] at hA hval hsz
  obtain ⟨v0, vs0, d0, ds0, p0, q0, hargs, rfl, rfl, h0, r0⟩ := trodAll_cons hA
  obtain ⟨v1, vs1, d1, ds1, p1, q1, rfl, rfl, rfl, h1, r1⟩ := trodAll_cons r0
  obtain ⟨v2, vs2, d2, ds2, p2, q2, rfl, rfl, rfl, h2, r2⟩ := trodAll_cons r1
  obtain ⟨v3, vs3, d3, ds3, p3, q3, rfl, rfl, rfl, h3, r3⟩ := trodAll_cons r2
  obtain ⟨v4, vs4, d4, ds4, p4, q4, rfl, rfl, rfl, h4, r4⟩ := trodAll_cons r3
  obtain ⟨rfl, rfl, rfl⟩ := trodAll_nil r4
  obtain rfl : args = #[v0, v1, v2, v3, v4] := by cases args; simp_all
  refine ⟨rfl, ?_⟩
  obtain ⟨a0, b0, c0, d0', e0, f0, g0, i0, j0, k0, l0, rfl⟩ := open_task (hval 0 24 v0 rfl rfl) h0
  obtain ⟨a1, rfl, rfl, rfl, w1⟩ := open_int Tryd.underlying3 (hval 1 3 v1 rfl rfl) h1
  obtain ⟨a2, rfl, rfl, rfl, w2⟩ := open_int Tryd.underlying3 (hval 2 3 v2 rfl rfl) h2
  obtain ⟨a3, rfl, rfl, rfl, w3⟩ := open_int Tryd.underlying2 (hval 3 2 v3 rfl rfl) h3
  obtain ⟨a4, rfl, rfl, rfl, w4⟩ := open_int Tryd.underlying2 (hval 4 2 v4 rfl rfl) h4
  exact lkeeps_any ⟨a0, b0, c0, d0', e0, f0, g0, i0, j0, k0, l0⟩ a1 a2 a3 a4 W hL

set_option maxRecDepth 100000 in
theorem lkeeps_lifted (os : Os) (started : os.Started) (H : Type) (enc : TypeId × Value → H) :
    ReturnsInHanded {} Tryd.checked os 8 .any (fun w args => (Rows.lifeKeepsSpec.pre enc Tryd.prog Tryd.f8 Rows.lifeKeepsRow.domain false w args ∧ laidMetH Tryd.prog [("ravel/life.follows", Rows.laid_ravel_life_follows)] w) ∧ sizedMet enc Tryd.prog Tryd.f8 (OpenSpec.ofChange Rows.lifeKeepsSpec) false w args) (Rows.lifeKeepsSpec.post enc Tryd.prog Tryd.f8 false true false false) :=
  lawL_lifted os started 8 Tryd.f8 Rows.lifeKeepsSpec [("ravel/life.follows", Rows.laid_ravel_life_follows)] Fol fol_of_laid rfl rfl (by kernel_rfl) Tryd.func8 (by kernel_rfl) (by kernel_rfl)
    (ChangeSpec.witness_shaped (enc := enc) (C := Tryd.checked) (os := os) (X := fun w _ => laidMetH Tryd.prog [("ravel/life.follows", Rows.laid_ravel_life_follows)] w) false (World.laidAll Tryd.prog os [("ravel/life.follows", Rows.laid_ravel_life_follows)]) #[.agg #[.int .i64 0, .int .i64 0, .int .i64 0, .int .i64 0, .int .i64 0, .int .i64 0, .int .i64 0, .int .i64 0, .int .i64 0, .int .i64 0, .int .i64 0], .int .i64 0, .int .i64 0, .int .i64 0, .int .i64 0] 8 (World.laidAll_os _ _ _)
      (World.shaped_of_ZipB (by kernel_rfl) (by kernel_rfl)) (by kernel_rfl) (by kernel_rfl) (by kernel_rfl) (by rw [MakeChecks.laidMetH_plain _ _ _ (by kernel_rfl)]; exact laidMet_laidAll _ (by kernel_rfl) (by kernel_rfl)))
    (lkeeps_gives enc)

set_option maxRecDepth 100000 in
theorem LifeKeeps_row : Rows.LifeKeepsSaid :=
  OpenClaim.holds_of_wide 8 Tryd.f8 rfl rfl rfl rfl rfl rfl rfl ⟨rfl, rfl, rfl, rfl, rfl⟩ rfl rfl rfl rfl rfl (by kernel_rfl) Tryd.func8 (by kernel_rfl)
    (of_decide_eq_true (by kernel_rfl)) (by unfold Func.isWrapper; first | (rw [if_pos (by decide +kernel)]; kernel_rfl) | (rw [if_neg (by decide +kernel)]; exact ⟨rfl, rfl⟩))
    (fun os started H enc _ => lkeeps_lifted os started H enc)

set_option maxRecDepth 100000 in
theorem LifeKeeps_holds : Rows.LifeKeepsCardSaid :=
  Claim7.holds_tied_plain_at .later [] [.data] true Rows.lifeKeepsCard.stood.harness false
    LifeKeeps_row (fun _ h => by cases h) (by kernel_rfl) (fun _ h => by cases h) lifeKeeps_row_tie rfl ⟨rfl, rfl⟩ (by kernel_rfl) (by kernel_rfl)
    (fun f fn hf hfn => by
      obtain rfl : f = 8 := Option.some.inj ((show Tryd.prog.funcNamed "ravel/ravellaw12.LifeKeeps" = some 8 by kernel_rfl).symm.trans hf) |>.symm
      obtain rfl : fn = Tryd.f8 := (Option.some.inj (Tryd.func8.symm.trans hfn)).symm
      exact ⟨by kernel_rfl, fun j t ht => by
        rw [Tryd.params8] at ht
        have hm : t ∈ [24, 3, 3, 2, 2] := by simpa using Array.mem_of_getElem? ht
        have hall : ([24, 3, 3, 2, 2].all fun u => !Tryd.prog.wantsStandIn u) = true := by kernel_rfl
        exact (show Tryd.prog.wantsStandIn t = false by simpa using List.all_eq_true.1 hall t hm)⟩)
    (by kernel_rfl)

#print axioms LifeKeeps_holds
end Go.Proofs.YtojaaoeflajdnaaDoor

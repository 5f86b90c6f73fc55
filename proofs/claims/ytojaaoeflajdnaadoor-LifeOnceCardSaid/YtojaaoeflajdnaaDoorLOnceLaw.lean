/-
  The tied card of the law LifeOnce of layer 12 holds, for every input, where the table of states reads as the program's own text lays it: whatever a task is moved to, as far as it may, its states are a trace, and all else of it stays. No condition beyond the row's own.
-/
import Derived.Test.YtojaaoeflajdnaaDoorLOnce
import Derived.Test.YtojaaoeflajdnaaDoorPRowK
import Derived.Test.YtojaaoeflajdnaaDoorCards
import Derived.Test.YtojaaoeflajdnaaDoorTie
import Derived.SevenTiedAt
namespace Go.Proofs.YtojaaoeflajdnaaDoor
open Go.ChangeShapes Go.WideShapes Go.ChangeAt Go.RowKit

set_option maxRecDepth 100000 in
theorem lonce_gives {H : Type} (enc : TypeId × Value → H) : GivesL Fol enc 6 Tryd.f6.params.toList Rows.lifeOnceSpec := by
  intro W base args ds p hval hA hsz hlt hL
  rw [Tryd.params6] at hA hval hsz
  obtain ⟨v0, vs0, d0, ds0, p0, q0, hargs, rfl, rfl, h0, r0⟩ := trodAll_cons hA
  obtain ⟨v1, vs1, d1, ds1, p1, q1, rfl, rfl, rfl, h1, r1⟩ := trodAll_cons r0
  obtain ⟨v2, vs2, d2, ds2, p2, q2, rfl, rfl, rfl, h2, r2⟩ := trodAll_cons r1
  obtain ⟨v3, vs3, d3, ds3, p3, q3, rfl, rfl, rfl, h3, r3⟩ := trodAll_cons r2
  obtain ⟨rfl, rfl, rfl⟩ := trodAll_nil r3
  obtain rfl : args = #[v0, v1, v2, v3] := by cases args; simp_all
  refine ⟨rfl, ?_⟩
  obtain ⟨a0, rfl, rfl, rfl, w0⟩ := open_int Tryd.underlying2 (hval 0 2 v0 rfl rfl) h0
  obtain ⟨a1, rfl, rfl, rfl, w1⟩ := open_int Tryd.underlying3 (hval 1 3 v1 rfl rfl) h1
  obtain ⟨a2, rfl, rfl, rfl, w2⟩ := open_int Tryd.underlying3 (hval 2 3 v2 rfl rfl) h2
  obtain ⟨A3, n3, c3, l3, rfl, hx3, hc3⟩ := open_numc Tryd.underlying35 (hval 3 35 v3 rfl rfl) h3 (fun x hx => hlt x (by simp [hx])) hsz (j := 3) rfl rfl
  exact lonce_any a0 a1 a2 A3 n3 c3 l3 W hx3 hL

set_option maxRecDepth 100000 in
theorem lonce_lifted (os : Os) (started : os.Started) (H : Type) (enc : TypeId × Value → H) :
    ReturnsInHanded {} Tryd.checked os 6 .any (fun w args => (Rows.lifeOnceSpec.pre enc Tryd.prog Tryd.f6 Rows.lifeOnceRow.domain false w args ∧ laidMetH Tryd.prog [("ravel/life.follows", Rows.laid_ravel_life_follows)] w) ∧ sizedMet enc Tryd.prog Tryd.f6 (OpenSpec.ofChange Rows.lifeOnceSpec) false w args) (Rows.lifeOnceSpec.post enc Tryd.prog Tryd.f6 false true false false) :=
  lawL_lifted os started 6 Tryd.f6 Rows.lifeOnceSpec [("ravel/life.follows", Rows.laid_ravel_life_follows)] Fol fol_of_laid rfl rfl (by kernel_rfl) Tryd.func6 (by kernel_rfl) (by kernel_rfl)
    (ChangeSpec.witness_shaped (enc := enc) (C := Tryd.checked) (os := os) (X := fun w _ => laidMetH Tryd.prog [("ravel/life.follows", Rows.laid_ravel_life_follows)] w) false (World.laidAll Tryd.prog os [("ravel/life.follows", Rows.laid_ravel_life_follows)]) #[.int .i64 0, .int .i64 0, .int .i64 0, .slice none 0 0] 8 (World.laidAll_os _ _ _)
      (World.shaped_of_ZipB (by kernel_rfl) (by kernel_rfl)) (by kernel_rfl) (by kernel_rfl) (by kernel_rfl) (by rw [MakeChecks.laidMetH_plain _ _ _ (by kernel_rfl)]; exact laidMet_laidAll _ (by kernel_rfl) (by kernel_rfl)))
    (lonce_gives enc)

set_option maxRecDepth 100000 in
theorem LifeOnce_row : Rows.LifeOnceSaid :=
  OpenClaim.holds_of_wide 6 Tryd.f6 rfl rfl rfl rfl rfl rfl rfl ⟨rfl, rfl, rfl, rfl, rfl⟩ rfl rfl rfl rfl rfl (by kernel_rfl) Tryd.func6 (by kernel_rfl)
    (of_decide_eq_true (by kernel_rfl)) (by unfold Func.isWrapper; first | (rw [if_pos (by decide +kernel)]; kernel_rfl) | (rw [if_neg (by decide +kernel)]; exact ⟨rfl, rfl⟩))
    (fun os started H enc _ => lonce_lifted os started H enc)

set_option maxRecDepth 100000 in
theorem LifeOnce_holds : Rows.LifeOnceCardSaid :=
  Claim7.holds_tied_plain_at .later [] [.data] true Rows.lifeOnceCard.stood.harness false
    LifeOnce_row (fun _ h => by cases h) (by kernel_rfl) (fun _ h => by cases h) lifeOnce_row_tie rfl ⟨rfl, rfl⟩ (by kernel_rfl) (by kernel_rfl)
    (fun f fn hf hfn => by
      obtain rfl : f = 6 := Option.some.inj ((show Tryd.prog.funcNamed "ravel/ravellaw12.LifeOnce" = some 6 by kernel_rfl).symm.trans hf) |>.symm
      obtain rfl : fn = Tryd.f6 := (Option.some.inj (Tryd.func6.symm.trans hfn)).symm
      exact ⟨by kernel_rfl, fun j t ht => by
        rw [Tryd.params6] at ht
        have hm : t ∈ [2, 3, 3, 35] := by simpa using Array.mem_of_getElem? ht
        have hall : ([2, 3, 3, 35].all fun u => !Tryd.prog.wantsStandIn u) = true := by kernel_rfl
        exact (show Tryd.prog.wantsStandIn t = false by simpa using List.all_eq_true.1 hall t hm)⟩)
    (by kernel_rfl)

#print axioms LifeOnce_holds
end Go.Proofs.YtojaaoeflajdnaaDoor

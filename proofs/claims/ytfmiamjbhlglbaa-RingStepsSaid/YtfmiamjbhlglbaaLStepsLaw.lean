/-
  The law RingSteps of layer 7 holds, for every input: any access of any hand at any deque, and all of them, are what the document says, or are refused for the same reason; the cells that were handed in stay as they were. No condition beyond the row's own.
-/
import Derived.Test.YtfmiamjbhlglbaaLSteps
import Derived.Test.YtfmiamjbhlglbaaPRowS
namespace Go.Proofs.Ytfmiamjbhlglbaa
open Go.ChangeShapes Go.WideShapes Go.ChangeAt Go.RowKit

theorem lsteps_gives {H : Type} (enc : TypeId × Value → H) : Gives enc 3 Try.f3.params.toList Rows.ringStepsSpec := by
  intro W base args ds p hval hA hsz hlt
  rw [Try.params3] at hA hval hsz
  obtain ⟨v0, vs0, d0, ds0, p0, q0, hargs, rfl, rfl, h0, r0⟩ := trodAll_cons hA
  obtain ⟨v1, vs1, d1, ds1, p1, q1, rfl, rfl, rfl, h1, r1⟩ := trodAll_cons r0
  obtain ⟨v2, vs2, d2, ds2, p2, q2, rfl, rfl, rfl, h2, r2⟩ := trodAll_cons r1
  obtain ⟨v3, vs3, d3, ds3, p3, q3, rfl, rfl, rfl, h3, r3⟩ := trodAll_cons r2
  obtain ⟨v4, vs4, d4, ds4, p4, q4, rfl, rfl, rfl, h4, r4⟩ := trodAll_cons r3
  obtain ⟨rfl, rfl, rfl⟩ := trodAll_nil r4
  obtain rfl : args = #[v0, v1, v2, v3, v4] := by cases args; simp_all
  refine ⟨rfl, ?_⟩
  obtain ⟨A0, n0, c0, zs0, rfl, hx0⟩ := open_mem Try.underlying23 (hval 0 23 v0 rfl rfl) h0 (fun x hx => hlt x (by simp [hx])) hsz (j := 0) rfl rfl
  obtain ⟨k1, q1', rfl, fk1, fq1⟩ := open_deq (hval 1 25 v1 rfl rfl) h1
  obtain ⟨hk2, hq2, hx2, ht2, hb2, hw2, hs2, rfl, fk2, fq2, fx2, fs2⟩ := open_hand (hval 2 27 v2 rfl rfl) h2
  obtain ⟨a3, rfl, rfl, rfl, w3⟩ := open_int Try.underlying3 (hval 3 3 v3 rfl rfl) h3
  obtain ⟨a4, rfl, rfl, rfl, w4⟩ := open_int Try.underlying2 (hval 4 2 v4 rfl rfl) h4
  exact lsteps_any A0 n0 c0 k1 q1' zs0 hk2 hq2 hx2 ht2 hb2 hw2 hs2 a3 a4 W hx0 fk1 fq1 ⟨fk2, fq2, fx2, fs2⟩ (fit_of_wf w3)

set_option maxRecDepth 100000 in
theorem lsteps_lifted (os : Os) (started : os.Started) (H : Type) (enc : TypeId × Value → H) :
    ReturnsInHanded {} Try.checked os 3 .any (Rows.ringStepsSpec.pre6 enc Try.prog Try.f3 Rows.ringStepsRow.domain false) (Rows.ringStepsSpec.post enc Try.prog Try.f3 false true false false) :=
  law_lifted os started 3 Try.f3 Rows.ringStepsSpec rfl rfl (by kernel_rfl) Try.func3 (by kernel_rfl) (by kernel_rfl)
    (ChangeSpec.witness6 (enc := enc) (C := Try.checked) false ⟨#[], #[.slice none 0 0, .agg #[.int .i64 0, .int .i64 0], .agg #[.int .i64 0, .int .i64 0, .int .i64 0, .int .i64 0, .int .i64 0, .bool false, .int .i64 0], .int .i64 0, .int .i64 0], []⟩ 8 (by kernel_rfl) (by kernel_rfl) (by kernel_rfl) (by kernel_rfl))
    (lsteps_gives enc)

theorem RingSteps_holds : Rows.RingStepsSaid :=
  OpenClaim.holds_of_wide 3 Try.f3 rfl rfl rfl rfl rfl rfl rfl ⟨rfl, rfl, rfl, rfl, rfl⟩ rfl rfl rfl rfl rfl (by kernel_rfl) Try.func3 (by kernel_rfl)
    (of_decide_eq_true (by kernel_rfl)) (by unfold Func.isWrapper; first | (rw [if_pos (by decide +kernel)]; kernel_rfl) | (rw [if_neg (by decide +kernel)]; exact ⟨rfl, rfl⟩))
    (fun os started H enc _ => lsteps_lifted os started H enc)

#print axioms RingSteps_holds
end Go.Proofs.Ytfmiamjbhlglbaa

/-
  The law RingOnce of layer 7 holds, for every input: in whatever order an owner's accesses, and those of others, come: each number that was pushed is taken once at the most, and none that was not; when all are done, those that were not taken are there, in order. No condition beyond the row's own.
-/
import Derived.Test.YtfmiamjbhlglbaaLOnce
import Derived.Test.YtfmiamjbhlglbaaPRow
import Derived.Test.YtfmiamjbhlglbaaOpenOct
namespace Go.Proofs.Ytfmiamjbhlglbaa
open Go.ChangeShapes Go.WideShapes Go.ChangeAt Go.RowKit

theorem lonce_gives {H : Type} (enc : TypeId × Value → H) : Gives enc 6 Try.f6.params.toList Rows.ringOnceSpec := by
  intro W base args ds p hval hA hsz hlt
  rw [Try.params6] at hA hval hsz
  obtain ⟨v0, vs0, d0, ds0, p0, q0, hargs, rfl, rfl, h0, r0⟩ := trodAll_cons hA
  obtain ⟨v1, vs1, d1, ds1, p1, q1, rfl, rfl, rfl, h1, r1⟩ := trodAll_cons r0
  obtain ⟨v2, vs2, d2, ds2, p2, q2, rfl, rfl, rfl, h2, r2⟩ := trodAll_cons r1
  obtain ⟨rfl, rfl, rfl⟩ := trodAll_nil r2
  obtain rfl : args = #[v0, v1, v2] := by cases args; simp_all
  refine ⟨rfl, ?_⟩
  obtain ⟨a0, rfl, rfl, rfl, w0⟩ := open_int Try.underlying3 (hval 0 3 v0 rfl rfl) h0
  obtain ⟨a1, rfl, rfl, rfl, w1⟩ := open_int Try.underlying3 (hval 1 3 v1 rfl rfl) h1
  obtain ⟨A2, n2, c2, zs2, rfl, hm2, hx2⟩ := open_octs Try.underlying45 (hval 2 45 v2 rfl rfl) h2 (fun x hx => hlt x (by simp [hx]))
  exact lonce_any a0 a1 A2 n2 c2 zs2 W hm2 hx2

set_option maxRecDepth 100000 in
theorem lonce_lifted (os : Os) (started : os.Started) (H : Type) (enc : TypeId × Value → H) :
    ReturnsInHanded {} Try.checked os 6 .any (Rows.ringOnceSpec.pre6 enc Try.prog Try.f6 Rows.ringOnceRow.domain false) (Rows.ringOnceSpec.post enc Try.prog Try.f6 false true false false) :=
  law_lifted os started 6 Try.f6 Rows.ringOnceSpec rfl rfl (by kernel_rfl) Try.func6 (by kernel_rfl) (by kernel_rfl)
    (ChangeSpec.witness6 (enc := enc) (C := Try.checked) false ⟨#[], #[.int .i64 0, .int .i64 0, .slice none 0 0], []⟩ 8 (by kernel_rfl) (by kernel_rfl) (by kernel_rfl) (by kernel_rfl))
    (lonce_gives enc)

theorem RingOnce_holds : Rows.RingOnceSaid :=
  OpenClaim.holds_of_wide 6 Try.f6 rfl rfl rfl rfl rfl rfl rfl ⟨rfl, rfl, rfl, rfl, rfl⟩ rfl rfl rfl rfl rfl (by kernel_rfl) Try.func6 (by kernel_rfl)
    (of_decide_eq_true (by kernel_rfl)) (by unfold Func.isWrapper; first | (rw [if_pos (by decide +kernel)]; kernel_rfl) | (rw [if_neg (by decide +kernel)]; exact ⟨rfl, rfl⟩))
    (fun os started H enc _ => lonce_lifted os started H enc)

#print axioms RingOnce_holds
end Go.Proofs.Ytfmiamjbhlglbaa

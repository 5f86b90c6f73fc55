/-
  The law RingSolo of layer 7 holds, for every input: one by one a deque is a list: what is pushed is behind, or there is no room just if as many are there as there are slots; the last one is popped, the first one stolen, or there is none. No condition beyond the row's own.
-/
import Derived.Test.YtfmiamjbhlglbaaLSolo
import Derived.Test.YtfmiamjbhlglbaaPRow
namespace Go.Proofs.Ytfmiamjbhlglbaa
open Go.ChangeShapes Go.WideShapes Go.ChangeAt Go.RowKit

theorem lsolo_gives {H : Type} (enc : TypeId × Value → H) : Gives enc 5 Try.f5.params.toList Rows.ringSoloSpec := by
  intro W base args ds p hval hA hsz hlt
  rw [Try.params5] at hA hval hsz
  obtain ⟨v0, vs0, d0, ds0, p0, q0, hargs, rfl, rfl, h0, r0⟩ := trodAll_cons hA
  obtain ⟨v1, vs1, d1, ds1, p1, q1, rfl, rfl, rfl, h1, r1⟩ := trodAll_cons r0
  obtain ⟨v2, vs2, d2, ds2, p2, q2, rfl, rfl, rfl, h2, r2⟩ := trodAll_cons r1
  obtain ⟨rfl, rfl, rfl⟩ := trodAll_nil r2
  obtain rfl : args = #[v0, v1, v2] := by cases args; simp_all
  refine ⟨rfl, ?_⟩
  obtain ⟨a0, rfl, rfl, rfl, w0⟩ := open_int Try.underlying3 (hval 0 3 v0 rfl rfl) h0
  obtain ⟨a1, rfl, rfl, rfl, w1⟩ := open_int Try.underlying2 (hval 1 2 v1 rfl rfl) h1
  obtain ⟨A2, n2, c2, zs2, rfl, hm2, hx2⟩ := open_i8s (hval 2 40 v2 rfl rfl) h2 (fun x hx => hlt x (by simp [hx]))
  exact lsolo_any a0 a1 A2 n2 c2 zs2 W hm2 hx2

set_option maxRecDepth 100000 in
theorem lsolo_lifted (os : Os) (started : os.Started) (H : Type) (enc : TypeId × Value → H) :
    ReturnsInHanded {} Try.checked os 5 .any (Rows.ringSoloSpec.pre6 enc Try.prog Try.f5 Rows.ringSoloRow.domain false) (Rows.ringSoloSpec.post enc Try.prog Try.f5 false true false false) :=
  law_lifted os started 5 Try.f5 Rows.ringSoloSpec rfl rfl (by kernel_rfl) Try.func5 (by kernel_rfl) (by kernel_rfl)
    (ChangeSpec.witness6 (enc := enc) (C := Try.checked) false ⟨#[], #[.int .i64 0, .int .i64 0, .slice none 0 0], []⟩ 8 (by kernel_rfl) (by kernel_rfl) (by kernel_rfl) (by kernel_rfl))
    (lsolo_gives enc)

theorem RingSolo_holds : Rows.RingSoloSaid :=
  OpenClaim.holds_of_wide 5 Try.f5 rfl rfl rfl rfl rfl rfl rfl ⟨rfl, rfl, rfl, rfl, rfl⟩ rfl rfl rfl rfl rfl (by kernel_rfl) Try.func5 (by kernel_rfl)
    (of_decide_eq_true (by kernel_rfl)) (by unfold Func.isWrapper; first | (rw [if_pos (by decide +kernel)]; kernel_rfl) | (rw [if_neg (by decide +kernel)]; exact ⟨rfl, rfl⟩))
    (fun os started H enc _ => lsolo_lifted os started H enc)

#print axioms RingSolo_holds
end Go.Proofs.Ytfmiamjbhlglbaa

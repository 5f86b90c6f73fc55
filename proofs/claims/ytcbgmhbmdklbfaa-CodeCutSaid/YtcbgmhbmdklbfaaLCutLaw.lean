/-
  The law CodeCut of layer 4 holds, for every input: what stands behind a program's first exit plays no part in its tasks, nor in its units. No condition beyond the row's own.
-/
import Derived.Test.YtcbgmhbmdklbfaaLCut
import Derived.Test.YtcbgmhbmdklbfaaPRow
namespace Go.Proofs.Ytcbgmhbmdklbfaa
open Go.ChangeShapes Go.WideShapes Go.ChangeAt Go.RowKit

theorem lcut_gives {H : Type} (enc : TypeId × Value → H) : Gives enc 9 Try.f9.params.toList Rows.codeCutSpec := by
  intro W base args ds p hval hA hsz hlt
  rw [Try.params9] at hA hval hsz
  obtain ⟨v0, vs0, d0, ds0, p0, q0, hargs, rfl, rfl, h0, r0⟩ := trodAll_cons hA
  obtain ⟨v1, vs1, d1, ds1, p1, q1, rfl, rfl, rfl, h1, r1⟩ := trodAll_cons r0
  obtain ⟨v2, vs2, d2, ds2, p2, q2, rfl, rfl, rfl, h2, r2⟩ := trodAll_cons r1
  obtain ⟨rfl, rfl, rfl⟩ := trodAll_nil r2
  obtain rfl : args = #[v0, v1, v2] := by cases args; simp_all
  refine ⟨rfl, ?_⟩
  obtain ⟨A0, n0, c0, l0, rfl, hx0⟩ := open_prgs (hval 0 22 v0 rfl rfl) h0 (fun x hx => hlt x (by simp [hx]))
  obtain ⟨a1, rfl, rfl, rfl, w1⟩ := open_int Try.underlying3 (hval 1 3 v1 rfl rfl) h1
  obtain ⟨A2, n2, c2, q2', rfl, hx2⟩ := open_prog (hval 2 25 v2 rfl rfl) h2 (fun x hx => hlt x (by simp [hx]))
  exact lcut_any A0 A2 n0 c0 n2 c2 l0 a1 q2' W hx0 hx2

set_option maxRecDepth 100000 in
theorem lcut_lifted (os : Os) (started : os.Started) (H : Type) (enc : TypeId × Value → H) :
    ReturnsInHanded {} Try.checked os 9 .any (Rows.codeCutSpec.pre6 enc Try.prog Try.f9 Rows.codeCutRow.domain false) (Rows.codeCutSpec.post enc Try.prog Try.f9 false true false false) :=
  law_lifted os started 9 Try.f9 Rows.codeCutSpec rfl rfl (by kernel_rfl) Try.func9 (by kernel_rfl) (by kernel_rfl)
    (ChangeSpec.witness6 (enc := enc) (C := Try.checked) false ⟨#[], #[.slice none 0 0, .int .i64 0, .slice none 0 0], []⟩ 8 (by kernel_rfl) (by kernel_rfl) (by kernel_rfl) (by kernel_rfl))
    (lcut_gives enc)

theorem CodeCut_holds : Rows.CodeCutSaid :=
  OpenClaim.holds_of_wide 9 Try.f9 rfl rfl rfl rfl rfl rfl rfl ⟨rfl, rfl, rfl, rfl, rfl⟩ rfl rfl rfl rfl rfl (by kernel_rfl) Try.func9 (by kernel_rfl)
    (of_decide_eq_true (by kernel_rfl)) (by unfold Func.isWrapper; first | (rw [if_pos (by decide +kernel)]; kernel_rfl) | (rw [if_neg (by decide +kernel)]; exact ⟨rfl, rfl⟩))
    (fun os started H enc _ => lcut_lifted os started H enc)

#print axioms CodeCut_holds
end Go.Proofs.Ytcbgmhbmdklbfaa

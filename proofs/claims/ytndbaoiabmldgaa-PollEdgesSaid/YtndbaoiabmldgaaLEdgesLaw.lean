/-
  The law PollEdges of layer 9 holds, for every input: whatever is opened, shut, armed, and fired: who goes on had armed that descriptor, and had not gone on since; no more go on than edges came. No condition beyond the row's own.
-/
import Derived.Test.YtndbaoiabmldgaaLEdges
import Derived.Test.YtndbaoiabmldgaaPRowD
namespace Go.Proofs.Ytndbaoiabmldgaa
open Go.ChangeShapes Go.WideShapes Go.ChangeAt Go.RowKit

set_option maxRecDepth 100000 in
theorem ledges_gives {H : Type} (enc : TypeId × Value → H) : Gives enc 5 Try.f5.params.toList Rows.pollEdgesSpec := by
  intro W base args ds p hval hA hsz hlt
  rw [Try.params5] at hA hval hsz
  obtain ⟨v0, vs0, d0, ds0, p0, q0, hargs, rfl, rfl, h0, r0⟩ := trodAll_cons hA
  obtain ⟨v1, vs1, d1, ds1, p1, q1, rfl, rfl, rfl, h1, r1⟩ := trodAll_cons r0
  obtain ⟨rfl, rfl, rfl⟩ := trodAll_nil r1
  obtain rfl : args = #[v0, v1] := by cases args; simp_all
  refine ⟨rfl, ?_⟩
  obtain ⟨a0, rfl, rfl, rfl, w0⟩ := open_int Try.underlying3 (hval 0 3 v0 rfl rfl) h0
  obtain ⟨A1, n1, c1, l1, rfl, hx1⟩ := open_ops9 (hval 1 43 v1 rfl rfl) h1 (fun x hx => hlt x (by simp [hx]))
  exact ledges_any a0 A1 n1 c1 l1 W hx1

set_option maxRecDepth 100000 in
theorem ledges_lifted (os : Os) (started : os.Started) (H : Type) (enc : TypeId × Value → H) :
    ReturnsInHanded {} Try.checked os 5 .any (Rows.pollEdgesSpec.pre6 enc Try.prog Try.f5 Rows.pollEdgesRow.domain false) (Rows.pollEdgesSpec.post enc Try.prog Try.f5 false true false false) :=
  law_lifted os started 5 Try.f5 Rows.pollEdgesSpec rfl rfl (by kernel_rfl) Try.func5 (by kernel_rfl) (by kernel_rfl)
    (ChangeSpec.witness6 (enc := enc) (C := Try.checked) false ⟨#[], #[.int .i64 0, .slice none 0 0], []⟩ 8 (by kernel_rfl) (by kernel_rfl) (by kernel_rfl) (by kernel_rfl))
    (ledges_gives enc)

set_option maxRecDepth 100000 in
theorem PollEdges_holds : Rows.PollEdgesSaid :=
  OpenClaim.holds_of_wide 5 Try.f5 rfl rfl rfl rfl rfl rfl rfl ⟨rfl, rfl, rfl, rfl, rfl⟩ rfl rfl rfl rfl rfl (by kernel_rfl) Try.func5 (by kernel_rfl)
    (of_decide_eq_true (by kernel_rfl)) (by unfold Func.isWrapper; first | (rw [if_pos (by decide +kernel)]; kernel_rfl) | (rw [if_neg (by decide +kernel)]; exact ⟨rfl, rfl⟩))
    (fun os started H enc _ => ledges_lifted os started H enc)

#print axioms PollEdges_holds
end Go.Proofs.Ytndbaoiabmldgaa

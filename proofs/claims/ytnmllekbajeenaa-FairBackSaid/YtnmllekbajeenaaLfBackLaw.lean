/-
  The law FairBack of layer 15 holds, for every input: what is charged, and given back, leaves all as they were; units cost in two goes the same as in one, and half of twice the weight. No condition beyond the row's own.
-/
import Derived.Test.YtnmllekbajeenaaLfBack
import Derived.Test.YtnmllekbajeenaaPRowTn
namespace Go.Proofs.Ytnmllekbajeenaa
open Go.ChangeShapes Go.WideShapes Go.ChangeAt Go.RowKit

set_option maxRecDepth 100000 in
theorem fairback_gives {H : Type} (enc : TypeId × Value → H) : Gives enc 4 Try.f4.params.toList Rows.fairBackSpec := by
  intro W base args ds p hval hA hsz hlt
  rw [Try.params4] at hA hval hsz
  obtain ⟨v0, vs0, d0, ds0, p0, q0, hargs, rfl, rfl, h0, r0⟩ := trodAll_cons hA
  obtain ⟨v1, vs1, d1, ds1, p1, q1, rfl, rfl, rfl, h1, r1⟩ := trodAll_cons r0
  obtain ⟨v2, vs2, d2, ds2, p2, q2, rfl, rfl, rfl, h2, r2⟩ := trodAll_cons r1
  obtain ⟨v3, vs3, d3, ds3, p3, q3, rfl, rfl, rfl, h3, r3⟩ := trodAll_cons r2
  obtain ⟨rfl, rfl, rfl⟩ := trodAll_nil r3
  obtain rfl : args = #[v0, v1, v2, v3] := by cases args; simp_all
  refine ⟨rfl, ?_⟩
  obtain ⟨A0, n0, c0, l0, rfl, hx0⟩ := open_tns (hval 0 22 v0 rfl rfl) h0 (fun x hx => hlt x (by simp [hx]))
  obtain ⟨a1, rfl, rfl, rfl, w1⟩ := open_int Try.underlying3 (hval 1 3 v1 rfl rfl) h1
  obtain ⟨a2, rfl, rfl, rfl, w2⟩ := open_int Try.underlying2 (hval 2 2 v2 rfl rfl) h2
  obtain ⟨a3, rfl, rfl, rfl, w3⟩ := open_int Try.underlying2 (hval 3 2 v3 rfl rfl) h3
  exact fairback_any A0 n0 c0 l0 a1 a2 a3 W hx0 (fit_of_wf w1)

set_option maxRecDepth 100000 in
theorem fairback_lifted (os : Os) (started : os.Started) (H : Type) (enc : TypeId × Value → H) :
    ReturnsInHanded {} Try.checked os 4 .any (Rows.fairBackSpec.pre6 enc Try.prog Try.f4 Rows.fairBackRow.domain false) (Rows.fairBackSpec.post enc Try.prog Try.f4 false true false false) :=
  law_lifted os started 4 Try.f4 Rows.fairBackSpec rfl rfl (by kernel_rfl) Try.func4 (by kernel_rfl) (by kernel_rfl)
    (ChangeSpec.witness6 (enc := enc) (C := Try.checked) false ⟨#[], #[.slice none 0 0, .int .i64 0, .int .i64 0, .int .i64 0], []⟩ 8 (by kernel_rfl) (by kernel_rfl) (by kernel_rfl) (by kernel_rfl))
    (fairback_gives enc)

set_option maxRecDepth 100000 in
theorem FairBack_holds : Rows.FairBackSaid :=
  OpenClaim.holds_of_wide 4 Try.f4 rfl rfl rfl rfl rfl rfl rfl ⟨rfl, rfl, rfl, rfl, rfl⟩ rfl rfl rfl rfl rfl (by kernel_rfl) Try.func4 (by kernel_rfl)
    (of_decide_eq_true (by kernel_rfl)) (by unfold Func.isWrapper; first | (rw [if_pos (by decide +kernel)]; kernel_rfl) | (rw [if_neg (by decide +kernel)]; exact ⟨rfl, rfl⟩))
    (fun os started H enc _ => fairback_lifted os started H enc)

#print axioms FairBack_holds
end Go.Proofs.Ytnmllekbajeenaa

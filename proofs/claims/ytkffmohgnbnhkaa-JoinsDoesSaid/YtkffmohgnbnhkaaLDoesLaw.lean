/-
  The law JoinsDoes of layer 11 holds, for every input: anybody that waits, is done, and is dropped, whether any joins may be, for whom anybody waits, and whether two are the same, are the document's; they stay as they were. No condition beyond the row's own.
-/
import Derived.Test.YtkffmohgnbnhkaaLDoes
import Derived.Test.YtkffmohgnbnhkaaPRowJ
namespace Go.Proofs.Ytkffmohgnbnhkaa
open Go.ChangeShapes Go.WideShapes Go.ChangeAt Go.RowKit

set_option maxRecDepth 100000 in
theorem ldoes_gives {H : Type} (enc : TypeId × Value → H) : Gives enc 3 Try.f3.params.toList Rows.joinsDoesSpec := by
  intro W base args ds p hval hA hsz hlt
  rw [Try.params3] at hA hval hsz
  obtain ⟨v0, vs0, d0, ds0, p0, q0, hargs, rfl, rfl, h0, r0⟩ := trodAll_cons hA
  obtain ⟨v1, vs1, d1, ds1, p1, q1, rfl, rfl, rfl, h1, r1⟩ := trodAll_cons r0
  obtain ⟨v2, vs2, d2, ds2, p2, q2, rfl, rfl, rfl, h2, r2⟩ := trodAll_cons r1
  obtain ⟨v3, vs3, d3, ds3, p3, q3, rfl, rfl, rfl, h3, r3⟩ := trodAll_cons r2
  obtain ⟨rfl, rfl, rfl⟩ := trodAll_nil r3
  obtain rfl : args = #[v0, v1, v2, v3] := by cases args; simp_all
  refine ⟨rfl, ?_⟩
  obtain ⟨A0, n0, c0, l0, rfl, hx0⟩ := open_tms (hval 0 22 v0 rfl rfl) h0 (fun x hx => hlt x (by simp [hx]))
  obtain ⟨A1, n1, c1, l1, rfl, hx1⟩ := open_tms (hval 1 22 v1 rfl rfl) h1 (fun x hx => hlt x (by simp [hx]))
  obtain ⟨a2, rfl, rfl, rfl, w2⟩ := open_int Try.underlying2 (hval 2 2 v2 rfl rfl) h2
  obtain ⟨a3, rfl, rfl, rfl, w3⟩ := open_int Try.underlying2 (hval 3 2 v3 rfl rfl) h3
  exact ldoes_any A0 A1 n0 c0 n1 c1 l0 l1 a2 a3 W hx0 hx1 (fit_of_wf w2) (fit_of_wf w3)

set_option maxRecDepth 100000 in
theorem ldoes_lifted (os : Os) (started : os.Started) (H : Type) (enc : TypeId × Value → H) :
    ReturnsInHanded {} Try.checked os 3 .any (Rows.joinsDoesSpec.pre6 enc Try.prog Try.f3 Rows.joinsDoesRow.domain false) (Rows.joinsDoesSpec.post enc Try.prog Try.f3 false true false false) :=
  law_lifted os started 3 Try.f3 Rows.joinsDoesSpec rfl rfl (by kernel_rfl) Try.func3 (by kernel_rfl) (by kernel_rfl)
    (ChangeSpec.witness6 (enc := enc) (C := Try.checked) false ⟨#[], #[.slice none 0 0, .slice none 0 0, .int .i64 0, .int .i64 0], []⟩ 8 (by kernel_rfl) (by kernel_rfl) (by kernel_rfl) (by kernel_rfl))
    (ldoes_gives enc)

set_option maxRecDepth 100000 in
theorem JoinsDoes_holds : Rows.JoinsDoesSaid :=
  OpenClaim.holds_of_wide 3 Try.f3 rfl rfl rfl rfl rfl rfl rfl ⟨rfl, rfl, rfl, rfl, rfl⟩ rfl rfl rfl rfl rfl (by kernel_rfl) Try.func3 (by kernel_rfl)
    (of_decide_eq_true (by kernel_rfl)) (by unfold Func.isWrapper; first | (rw [if_pos (by decide +kernel)]; kernel_rfl) | (rw [if_neg (by decide +kernel)]; exact ⟨rfl, rfl⟩))
    (fun os started H enc _ => ldoes_lifted os started H enc)

#print axioms JoinsDoes_holds
end Go.Proofs.Ytkffmohgnbnhkaa

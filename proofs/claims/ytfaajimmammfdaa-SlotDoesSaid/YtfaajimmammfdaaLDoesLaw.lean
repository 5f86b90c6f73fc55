/-
  The law SlotDoes of layer 5 holds, for every input: any places, with one more taken, any id found, and freed, are the document's. No condition beyond the row's own.
-/
import Derived.Test.YtfaajimmammfdaaLDoes
import Derived.Test.YtfaajimmammfdaaPRow
namespace Go.Proofs.Ytfaajimmammfdaa
open Go.ChangeShapes Go.WideShapes Go.ChangeAt Go.RowKit

theorem ldoes_gives {H : Type} (enc : TypeId × Value → H) : Gives enc 3 Try.f3.params.toList Rows.slotDoesSpec := by
  intro W base args ds p hval hA hsz hlt
  rw [Try.params3] at hA hval hsz
  obtain ⟨v0, vs0, d0, ds0, p0, q0, hargs, rfl, rfl, h0, r0⟩ := trodAll_cons hA
  obtain ⟨v1, vs1, d1, ds1, p1, q1, rfl, rfl, rfl, h1, r1⟩ := trodAll_cons r0
  obtain ⟨v2, vs2, d2, ds2, p2, q2, rfl, rfl, rfl, h2, r2⟩ := trodAll_cons r1
  obtain ⟨v3, vs3, d3, ds3, p3, q3, rfl, rfl, rfl, h3, r3⟩ := trodAll_cons r2
  obtain ⟨rfl, rfl, rfl⟩ := trodAll_nil r3
  obtain rfl : args = #[v0, v1, v2, v3] := by cases args; simp_all
  refine ⟨rfl, ?_⟩
  obtain ⟨a0, rfl, rfl, rfl, w0⟩ := open_int Try.underlying3 (hval 0 3 v0 rfl rfl) h0
  obtain ⟨A1, n1, c1, B1, m1, e1, gs1, ls1, rfl, hm1, hk1, hx1⟩ := open_plc (hval 1 25 v1 rfl rfl) h1 (fun x hx => hlt x (by simp [hx]))
  obtain ⟨A2, n2, c2, B2, m2, e2, gs2, ls2, rfl, hm2, hk2, hx2⟩ := open_plc (hval 2 25 v2 rfl rfl) h2 (fun x hx => hlt x (by simp [hx]))
  obtain ⟨a3, rfl, rfl, rfl, w3⟩ := open_int Try.underlying2 (hval 3 2 v3 rfl rfl) h3
  exact ldoes_any A1 B1 A2 B2 n1 c1 m1 e1 n2 c2 m2 e2 gs1 gs2 ls1 ls2 a0 a3 W hm1 hk1 hm2 hk2 hx1 hx2 (fit_of_wf w3)

set_option maxRecDepth 100000 in
theorem ldoes_lifted (os : Os) (started : os.Started) (H : Type) (enc : TypeId × Value → H) :
    ReturnsInHanded {} Try.checked os 3 .any (Rows.slotDoesSpec.pre6 enc Try.prog Try.f3 Rows.slotDoesRow.domain false) (Rows.slotDoesSpec.post enc Try.prog Try.f3 false true false false) :=
  law_lifted os started 3 Try.f3 Rows.slotDoesSpec rfl rfl (by kernel_rfl) Try.func3 (by kernel_rfl) (by kernel_rfl)
    (ChangeSpec.witness6 (enc := enc) (C := Try.checked) false ⟨#[], #[.int .i64 0, .agg #[.slice none 0 0, .slice none 0 0], .agg #[.slice none 0 0, .slice none 0 0], .int .i64 0], []⟩ 8 (by kernel_rfl) (by kernel_rfl) (by kernel_rfl) (by kernel_rfl))
    (ldoes_gives enc)

theorem SlotDoes_holds : Rows.SlotDoesSaid :=
  OpenClaim.holds_of_wide 3 Try.f3 rfl rfl rfl rfl rfl rfl rfl ⟨rfl, rfl, rfl, rfl, rfl⟩ rfl rfl rfl rfl rfl (by kernel_rfl) Try.func3 (by kernel_rfl)
    (of_decide_eq_true (by kernel_rfl)) (by unfold Func.isWrapper; first | (rw [if_pos (by decide +kernel)]; kernel_rfl) | (rw [if_neg (by decide +kernel)]; exact ⟨rfl, rfl⟩))
    (fun os started H enc _ => ldoes_lifted os started H enc)

#print axioms SlotDoes_holds
end Go.Proofs.Ytfaajimmammfdaa

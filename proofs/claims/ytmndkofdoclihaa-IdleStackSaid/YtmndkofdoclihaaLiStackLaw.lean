/-
  The law IdleStack of layer 17 holds, for every input: those who announced are waked from the last one on; who found something between is left out. No condition beyond the row's own.
-/
import Derived.Test.YtmndkofdoclihaaLiStack
import Derived.Test.YtmndkofdoclihaaPRowWo
namespace Go.Proofs.Ytmndkofdoclihaa
open Go.ChangeShapes Go.WideShapes Go.ChangeAt Go.RowKit

set_option maxRecDepth 100000 in
theorem idlestack_gives {H : Type} (enc : TypeId × Value → H) : Gives enc 6 Try.f6.params.toList Rows.idleStackSpec := by
  intro W base args ds p hval hA hsz hlt
  rw [Try.params6] at hA hval hsz
  obtain ⟨v0, vs0, d0, ds0, p0, q0, hargs, rfl, rfl, h0, r0⟩ := trodAll_cons hA
  obtain ⟨v1, vs1, d1, ds1, p1, q1, rfl, rfl, rfl, h1, r1⟩ := trodAll_cons r0
  obtain ⟨v2, vs2, d2, ds2, p2, q2, rfl, rfl, rfl, h2, r2⟩ := trodAll_cons r1
  obtain ⟨rfl, rfl, rfl⟩ := trodAll_nil r2
  obtain rfl : args = #[v0, v1, v2] := by cases args; simp_all
  refine ⟨rfl, ?_⟩
  obtain ⟨a0, rfl, rfl, rfl, w0⟩ := open_int Try.underlying3 (hval 0 3 v0 rfl rfl) h0
  obtain ⟨A1, n1, c1, zs1, rfl, hm1, hx1⟩ := open_octs Try.underlying43 (hval 1 43 v1 rfl rfl) h1 (fun x hx => hlt x (by simp [hx]))
  obtain ⟨A2, n2, c2, zs2, rfl, hm2, hx2⟩ := open_octs Try.underlying43 (hval 2 43 v2 rfl rfl) h2 (fun x hx => hlt x (by simp [hx]))
  exact idlestack_any A1 A2 n1 c1 n2 c2 a0 zs1 zs2 W hm1 hx1 hm2 hx2

set_option maxRecDepth 100000 in
theorem idlestack_lifted (os : Os) (started : os.Started) (H : Type) (enc : TypeId × Value → H) :
    ReturnsInHanded {} Try.checked os 6 .any (Rows.idleStackSpec.pre6 enc Try.prog Try.f6 Rows.idleStackRow.domain false) (Rows.idleStackSpec.post enc Try.prog Try.f6 false true false false) :=
  law_lifted os started 6 Try.f6 Rows.idleStackSpec rfl rfl (by kernel_rfl) Try.func6 (by kernel_rfl) (by kernel_rfl)
    (ChangeSpec.witness6 (enc := enc) (C := Try.checked) false ⟨#[], #[.int .i64 0, .slice none 0 0, .slice none 0 0], []⟩ 8 (by kernel_rfl) (by kernel_rfl) (by kernel_rfl) (by kernel_rfl))
    (idlestack_gives enc)

set_option maxRecDepth 100000 in
theorem IdleStack_holds : Rows.IdleStackSaid :=
  OpenClaim.holds_of_wide 6 Try.f6 rfl rfl rfl rfl rfl rfl rfl ⟨rfl, rfl, rfl, rfl, rfl⟩ rfl rfl rfl rfl rfl (by kernel_rfl) Try.func6 (by kernel_rfl)
    (of_decide_eq_true (by kernel_rfl)) (by unfold Func.isWrapper; first | (rw [if_pos (by decide +kernel)]; kernel_rfl) | (rw [if_neg (by decide +kernel)]; exact ⟨rfl, rfl⟩))
    (fun os started H enc _ => idlestack_lifted os started H enc)

#print axioms IdleStack_holds
end Go.Proofs.Ytmndkofdoclihaa

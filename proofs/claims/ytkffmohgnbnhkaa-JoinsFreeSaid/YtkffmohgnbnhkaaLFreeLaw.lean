/-
  The law JoinsFree of layer 11 holds, for every input: whoever waits, is done, and is dropped, in whatever order: the joins may be; nobody waits for itself, on whatever way, and behind the last one of a way there is nobody. No condition beyond the row's own.
-/
import Derived.Test.YtkffmohgnbnhkaaLFree
import Derived.Test.YtkffmohgnbnhkaaPRowJ
namespace Go.Proofs.Ytkffmohgnbnhkaa
open Go.ChangeShapes Go.WideShapes Go.ChangeAt Go.RowKit

set_option maxRecDepth 100000 in
theorem lfree_gives {H : Type} (enc : TypeId × Value → H) : Gives enc 4 Try.f4.params.toList Rows.joinsFreeSpec := by
  intro W base args ds p hval hA hsz hlt
  rw [Try.params4] at hA hval hsz
  obtain ⟨v0, vs0, d0, ds0, p0, q0, hargs, rfl, rfl, h0, r0⟩ := trodAll_cons hA
  obtain ⟨rfl, rfl, rfl⟩ := trodAll_nil r0
  obtain rfl : args = #[v0] := by cases args; simp_all
  refine ⟨rfl, ?_⟩
  obtain ⟨A0, n0, c0, l0, rfl, hx0⟩ := open_ops8 (hval 0 39 v0 rfl rfl) h0 (fun x hx => hlt x (by simp [hx]))
  exact lfree_any A0 n0 c0 l0 W hx0

set_option maxRecDepth 100000 in
theorem lfree_lifted (os : Os) (started : os.Started) (H : Type) (enc : TypeId × Value → H) :
    ReturnsInHanded {} Try.checked os 4 .any (Rows.joinsFreeSpec.pre6 enc Try.prog Try.f4 Rows.joinsFreeRow.domain false) (Rows.joinsFreeSpec.post enc Try.prog Try.f4 false true false false) :=
  law_lifted os started 4 Try.f4 Rows.joinsFreeSpec rfl rfl (by kernel_rfl) Try.func4 (by kernel_rfl) (by kernel_rfl)
    (ChangeSpec.witness6 (enc := enc) (C := Try.checked) false ⟨#[], #[.slice none 0 0], []⟩ 8 (by kernel_rfl) (by kernel_rfl) (by kernel_rfl) (by kernel_rfl))
    (lfree_gives enc)

set_option maxRecDepth 100000 in
theorem JoinsFree_holds : Rows.JoinsFreeSaid :=
  OpenClaim.holds_of_wide 4 Try.f4 rfl rfl rfl rfl rfl rfl rfl ⟨rfl, rfl, rfl, rfl, rfl⟩ rfl rfl rfl rfl rfl (by kernel_rfl) Try.func4 (by kernel_rfl)
    (of_decide_eq_true (by kernel_rfl)) (by unfold Func.isWrapper; first | (rw [if_pos (by decide +kernel)]; kernel_rfl) | (rw [if_neg (by decide +kernel)]; exact ⟨rfl, rfl⟩))
    (fun os started H enc _ => lfree_lifted os started H enc)

#print axioms JoinsFree_holds
end Go.Proofs.Ytkffmohgnbnhkaa

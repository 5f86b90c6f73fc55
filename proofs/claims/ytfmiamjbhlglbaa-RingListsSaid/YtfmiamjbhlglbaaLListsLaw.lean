/-
  The law RingLists of layer 7 holds, for every input: whether any deque may be, and its numbers, or why not, are the document's. No condition beyond the row's own.
-/
import Derived.Test.YtfmiamjbhlglbaaLLists
import Derived.Test.YtfmiamjbhlglbaaPRow
namespace Go.Proofs.Ytfmiamjbhlglbaa
open Go.ChangeShapes Go.WideShapes Go.ChangeAt Go.RowKit

theorem rlists_gives {H : Type} (enc : TypeId × Value → H) : Gives enc 4 Try.f4.params.toList Rows.ringListsSpec := by
  intro W base args ds p hval hA hsz hlt
  rw [Try.params4] at hA hval hsz
  obtain ⟨v0, vs0, d0, ds0, p0, q0, hargs, rfl, rfl, h0, r0⟩ := trodAll_cons hA
  obtain ⟨v1, vs1, d1, ds1, p1, q1, rfl, rfl, rfl, h1, r1⟩ := trodAll_cons r0
  obtain ⟨rfl, rfl, rfl⟩ := trodAll_nil r1
  obtain rfl : args = #[v0, v1] := by cases args; simp_all
  refine ⟨rfl, ?_⟩
  obtain ⟨A0, n0, c0, zs0, rfl, hx0⟩ := open_mem Try.underlying23 (hval 0 23 v0 rfl rfl) h0 (fun x hx => hlt x (by simp [hx])) hsz (j := 0) rfl rfl
  obtain ⟨k1, q1', rfl, fk1, fq1⟩ := open_deq (hval 1 25 v1 rfl rfl) h1
  exact rlists_any A0 n0 c0 k1 q1' zs0 W hx0 fk1 fq1

set_option maxRecDepth 100000 in
theorem rlists_lifted (os : Os) (started : os.Started) (H : Type) (enc : TypeId × Value → H) :
    ReturnsInHanded {} Try.checked os 4 .any (Rows.ringListsSpec.pre6 enc Try.prog Try.f4 Rows.ringListsRow.domain false) (Rows.ringListsSpec.post enc Try.prog Try.f4 false true false false) :=
  law_lifted os started 4 Try.f4 Rows.ringListsSpec rfl rfl (by kernel_rfl) Try.func4 (by kernel_rfl) (by kernel_rfl)
    (ChangeSpec.witness6 (enc := enc) (C := Try.checked) false ⟨#[], #[.slice none 0 0, .agg #[.int .i64 0, .int .i64 0]], []⟩ 8 (by kernel_rfl) (by kernel_rfl) (by kernel_rfl) (by kernel_rfl))
    (rlists_gives enc)

theorem RingLists_holds : Rows.RingListsSaid :=
  OpenClaim.holds_of_wide 4 Try.f4 rfl rfl rfl rfl rfl rfl rfl ⟨rfl, rfl, rfl, rfl, rfl⟩ rfl rfl rfl rfl rfl (by kernel_rfl) Try.func4 (by kernel_rfl)
    (of_decide_eq_true (by kernel_rfl)) (by unfold Func.isWrapper; first | (rw [if_pos (by decide +kernel)]; kernel_rfl) | (rw [if_neg (by decide +kernel)]; exact ⟨rfl, rfl⟩))
    (fun os started H enc _ => rlists_lifted os started H enc)

#print axioms RingLists_holds
end Go.Proofs.Ytfmiamjbhlglbaa

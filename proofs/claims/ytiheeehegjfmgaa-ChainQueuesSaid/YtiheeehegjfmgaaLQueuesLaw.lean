/-
  The law ChainQueues of layer 6 holds, for every input: whatever is done, from new chains on, each list has just what a queue of its own would have, and each node is in one of them at the most. No condition beyond the row's own.
-/
import Derived.Test.YtiheeehegjfmgaaLQueues
import Derived.Test.YtiheeehegjfmgaaPRow
import Derived.Test.YtiheeehegjfmgaaPRowQ
namespace Go.Proofs.Ytiheeehegjfmgaa
open Go.ChangeShapes Go.WideShapes Go.ChangeAt Go.RowKit

theorem lqueues_gives {H : Type} (enc : TypeId × Value → H) : Gives enc 5 Try.f5.params.toList Rows.chainQueuesSpec := by
  intro W base args ds p hval hA hsz hlt
  rw [Try.params5] at hA hval hsz
  obtain ⟨v0, vs0, d0, ds0, p0, q0, hargs, rfl, rfl, h0, r0⟩ := trodAll_cons hA
  obtain ⟨v1, vs1, d1, ds1, p1, q1, rfl, rfl, rfl, h1, r1⟩ := trodAll_cons r0
  obtain ⟨v2, vs2, d2, ds2, p2, q2, rfl, rfl, rfl, h2, r2⟩ := trodAll_cons r1
  obtain ⟨rfl, rfl, rfl⟩ := trodAll_nil r2
  obtain rfl : args = #[v0, v1, v2] := by cases args; simp_all
  refine ⟨rfl, ?_⟩
  obtain ⟨a0, rfl, rfl, rfl, w0⟩ := open_int Try.underlying3 (hval 0 3 v0 rfl rfl) h0
  obtain ⟨a1, rfl, rfl, rfl, w1⟩ := open_int Try.underlying3 (hval 1 3 v1 rfl rfl) h1
  obtain ⟨A2, n2, c2, l2, rfl, hx2⟩ := open_opq Try.underlying47 (hval 2 47 v2 rfl rfl) h2 (fun x hx => hlt x (by simp [hx])) hsz (j := 2) rfl rfl
  exact lqueues_any A2 n2 c2 l2 a0 a1 W hx2

set_option maxRecDepth 100000 in
theorem lqueues_lifted (os : Os) (started : os.Started) (H : Type) (enc : TypeId × Value → H) :
    ReturnsInHanded {} Try.checked os 5 .any (Rows.chainQueuesSpec.pre6 enc Try.prog Try.f5 Rows.chainQueuesRow.domain false) (Rows.chainQueuesSpec.post enc Try.prog Try.f5 false true false false) :=
  law_lifted os started 5 Try.f5 Rows.chainQueuesSpec rfl rfl (by kernel_rfl) Try.func5 (by kernel_rfl) (by kernel_rfl)
    (ChangeSpec.witness6 (enc := enc) (C := Try.checked) false ⟨#[], #[.int .i64 0, .int .i64 0, .slice none 0 0], []⟩ 8 (by kernel_rfl) (by kernel_rfl) (by kernel_rfl) (by kernel_rfl))
    (lqueues_gives enc)

theorem ChainQueues_holds : Rows.ChainQueuesSaid :=
  OpenClaim.holds_of_wide 5 Try.f5 rfl rfl rfl rfl rfl rfl rfl ⟨rfl, rfl, rfl, rfl, rfl⟩ rfl rfl rfl rfl rfl (by kernel_rfl) Try.func5 (by kernel_rfl)
    (of_decide_eq_true (by kernel_rfl)) (by unfold Func.isWrapper; first | (rw [if_pos (by decide +kernel)]; kernel_rfl) | (rw [if_neg (by decide +kernel)]; exact ⟨rfl, rfl⟩))
    (fun os started H enc _ => lqueues_lifted os started H enc)

#print axioms ChainQueues_holds
end Go.Proofs.Ytiheeehegjfmgaa

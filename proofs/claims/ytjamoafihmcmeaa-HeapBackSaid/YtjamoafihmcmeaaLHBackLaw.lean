/-
  The law HeapBack of layer 8 holds, for every input: a timer that is added, and cancelled, leaves the same timers; one that is set to its own time does, too; the first one comes behind none. No condition beyond the row's own.
-/
import Derived.Test.YtjamoafihmcmeaaLHBack
import Derived.Test.YtjamoafihmcmeaaPRowT
namespace Go.Proofs.Ytjamoafihmcmeaa
open Go.ChangeShapes Go.WideShapes Go.ChangeAt Go.RowKit

set_option maxRecDepth 100000 in
theorem lback_gives {H : Type} (enc : TypeId × Value → H) : Gives enc 6 Try.f6.params.toList Rows.heapBackSpec := by
  intro W base args ds p hval hA hsz hlt
  rw [Try.params6] at hA hval hsz
  obtain ⟨v0, vs0, d0, ds0, p0, q0, hargs, rfl, rfl, h0, r0⟩ := trodAll_cons hA
  obtain ⟨v1, vs1, d1, ds1, p1, q1, rfl, rfl, rfl, h1, r1⟩ := trodAll_cons r0
  obtain ⟨rfl, rfl, rfl⟩ := trodAll_nil r1
  obtain rfl : args = #[v0, v1] := by cases args; simp_all
  refine ⟨rfl, ?_⟩
  obtain ⟨A0, n0, c0, l0, rfl, hx0⟩ := open_tms (hval 0 22 v0 rfl rfl) h0 (fun x hx => hlt x (by simp [hx]))
  obtain ⟨t1, q1', rfl, ft1, fq1⟩ := open_tim (hval 1 24 v1 rfl rfl) h1
  exact lback_any A0 n0 c0 l0 t1 q1' W hx0 ft1 fq1

set_option maxRecDepth 100000 in
theorem lback_lifted (os : Os) (started : os.Started) (H : Type) (enc : TypeId × Value → H) :
    ReturnsInHanded {} Try.checked os 6 .any (Rows.heapBackSpec.pre6 enc Try.prog Try.f6 Rows.heapBackRow.domain false) (Rows.heapBackSpec.post enc Try.prog Try.f6 false true false false) :=
  law_lifted os started 6 Try.f6 Rows.heapBackSpec rfl rfl (by kernel_rfl) Try.func6 (by kernel_rfl) (by kernel_rfl)
    (ChangeSpec.witness6 (enc := enc) (C := Try.checked) false ⟨#[], #[.slice none 0 0, .agg #[.int .i64 0, .int .i64 0]], []⟩ 8 (by kernel_rfl) (by kernel_rfl) (by kernel_rfl) (by kernel_rfl))
    (lback_gives enc)

set_option maxRecDepth 100000 in
theorem HeapBack_holds : Rows.HeapBackSaid :=
  OpenClaim.holds_of_wide 6 Try.f6 rfl rfl rfl rfl rfl rfl rfl ⟨rfl, rfl, rfl, rfl, rfl⟩ rfl rfl rfl rfl rfl (by kernel_rfl) Try.func6 (by kernel_rfl)
    (of_decide_eq_true (by kernel_rfl)) (by unfold Func.isWrapper; first | (rw [if_pos (by decide +kernel)]; kernel_rfl) | (rw [if_neg (by decide +kernel)]; exact ⟨rfl, rfl⟩))
    (fun os started H enc _ => lback_lifted os started H enc)

#print axioms HeapBack_holds
end Go.Proofs.Ytjamoafihmcmeaa

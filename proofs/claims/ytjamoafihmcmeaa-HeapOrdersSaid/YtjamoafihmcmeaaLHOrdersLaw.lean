/-
  The law HeapOrders of layer 8 holds, for every input: in whatever order timers are added, they are the same; one that is set to another time is as if it had been cancelled, and added. No condition beyond the row's own.
-/
import Derived.Test.YtjamoafihmcmeaaLHOrders
import Derived.Test.YtjamoafihmcmeaaPRowT
import Derived.Test.YtjamoafihmcmeaaOpenOct
namespace Go.Proofs.Ytjamoafihmcmeaa
open Go.ChangeShapes Go.WideShapes Go.ChangeAt Go.RowKit

set_option maxRecDepth 100000 in
theorem lorders_gives {H : Type} (enc : TypeId × Value → H) : Gives enc 8 Try.f8.params.toList Rows.heapOrdersSpec := by
  intro W base args ds p hval hA hsz hlt
  rw [Try.params8] at hA hval hsz
  obtain ⟨v0, vs0, d0, ds0, p0, q0, hargs, rfl, rfl, h0, r0⟩ := trodAll_cons hA
  obtain ⟨v1, vs1, d1, ds1, p1, q1, rfl, rfl, rfl, h1, r1⟩ := trodAll_cons r0
  obtain ⟨v2, vs2, d2, ds2, p2, q2, rfl, rfl, rfl, h2, r2⟩ := trodAll_cons r1
  obtain ⟨v3, vs3, d3, ds3, p3, q3, rfl, rfl, rfl, h3, r3⟩ := trodAll_cons r2
  obtain ⟨rfl, rfl, rfl⟩ := trodAll_nil r3
  obtain rfl : args = #[v0, v1, v2, v3] := by cases args; simp_all
  refine ⟨rfl, ?_⟩
  obtain ⟨A0, n0, c0, l0, rfl, hx0⟩ := open_tms (hval 0 22 v0 rfl rfl) h0 (fun x hx => hlt x (by simp [hx]))
  obtain ⟨A1, n1, c1, zs1, rfl, hm1, hx1⟩ := open_octs Try.underlying52 (hval 1 52 v1 rfl rfl) h1 (fun x hx => hlt x (by simp [hx]))
  obtain ⟨a2, rfl, rfl, rfl, w2⟩ := open_int Try.underlying2 (hval 2 2 v2 rfl rfl) h2
  obtain ⟨a3, rfl, rfl, rfl, w3⟩ := open_int Try.underlying2 (hval 3 2 v3 rfl rfl) h3
  exact lorders_any A0 A1 n0 c0 n1 c1 l0 zs1 a2 a3 W hx0 hm1 hx1 (fit_of_wf w2) (fit_of_wf w3)

set_option maxRecDepth 100000 in
theorem lorders_lifted (os : Os) (started : os.Started) (H : Type) (enc : TypeId × Value → H) :
    ReturnsInHanded {} Try.checked os 8 .any (Rows.heapOrdersSpec.pre6 enc Try.prog Try.f8 Rows.heapOrdersRow.domain false) (Rows.heapOrdersSpec.post enc Try.prog Try.f8 false true false false) :=
  law_lifted os started 8 Try.f8 Rows.heapOrdersSpec rfl rfl (by kernel_rfl) Try.func8 (by kernel_rfl) (by kernel_rfl)
    (ChangeSpec.witness6 (enc := enc) (C := Try.checked) false ⟨#[], #[.slice none 0 0, .slice none 0 0, .int .i64 0, .int .i64 0], []⟩ 8 (by kernel_rfl) (by kernel_rfl) (by kernel_rfl) (by kernel_rfl))
    (lorders_gives enc)

set_option maxRecDepth 100000 in
theorem HeapOrders_holds : Rows.HeapOrdersSaid :=
  OpenClaim.holds_of_wide 8 Try.f8 rfl rfl rfl rfl rfl rfl rfl ⟨rfl, rfl, rfl, rfl, rfl⟩ rfl rfl rfl rfl rfl (by kernel_rfl) Try.func8 (by kernel_rfl)
    (of_decide_eq_true (by kernel_rfl)) (by unfold Func.isWrapper; first | (rw [if_pos (by decide +kernel)]; kernel_rfl) | (rw [if_neg (by decide +kernel)]; exact ⟨rfl, rfl⟩))
    (fun os started H enc _ => lorders_lifted os started H enc)

#print axioms HeapOrders_holds
end Go.Proofs.Ytjamoafihmcmeaa

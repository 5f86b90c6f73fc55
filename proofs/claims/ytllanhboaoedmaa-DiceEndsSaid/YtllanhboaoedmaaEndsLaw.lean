/-
  The law DiceEnds of layer 3 holds, for every input: behind the last octet all that is drawn is the least. No condition beyond the row's own.
-/
import Derived.Test.YtllanhboaoedmaaEnds
import Derived.Test.YtllanhboaoedmaaDRow
namespace Go.Proofs.Ytllanhboaoedmaa
open Go.ChangeShapes Go.WideShapes Go.ChangeAt Go.RowKit

theorem ends_gives {H : Type} (enc : TypeId × Value → H) : Gives enc 7 Try.f7.params.toList Rows.diceEndsSpec := by
  intro W base args ds p hval hA hsz hlt
  rw [Try.params7] at hA hval hsz
  obtain ⟨v0, vs0, d0, ds0, p0, q0, hargs, rfl, rfl, h0, r0⟩ := trodAll_cons hA
  obtain ⟨v1, vs1, d1, ds1, p1, q1, rfl, rfl, rfl, h1, r1⟩ := trodAll_cons r0
  obtain ⟨v2, vs2, d2, ds2, p2, q2, rfl, rfl, rfl, h2, r2⟩ := trodAll_cons r1
  obtain ⟨v3, vs3, d3, ds3, p3, q3, rfl, rfl, rfl, h3, r3⟩ := trodAll_cons r2
  obtain ⟨rfl, rfl, rfl⟩ := trodAll_nil r3
  obtain rfl : args = #[v0, v1, v2, v3] := by cases args; simp_all
  refine ⟨rfl, ?_⟩
  obtain ⟨A0, n0, c0, zs0, rfl, hm0, hx0⟩ := open_octs Try.underlying22 (hval 0 22 v0 rfl rfl) h0 (fun x hx => hlt x (by simp [hx]))
  obtain ⟨a1, rfl, rfl, rfl, w1⟩ := open_int Try.underlying3 (hval 1 3 v1 rfl rfl) h1
  obtain ⟨a2, rfl, rfl, rfl, w2⟩ := open_int Try.underlying3 (hval 2 3 v2 rfl rfl) h2
  obtain ⟨A3, n3, c3, zs3, rfl, hx3⟩ := open_nums Try.underlying25 (hval 3 25 v3 rfl rfl) h3 (fun x hx => hlt x (by simp [hx])) hsz (j := 3) rfl rfl
  exact ends_any A0 A3 n0 c0 n3 c3 a1 a2 zs0 zs3 W hm0 hx0 hx3

set_option maxRecDepth 100000 in
theorem ends_lifted (os : Os) (started : os.Started) (H : Type) (enc : TypeId × Value → H) :
    ReturnsInHanded {} Try.checked os 7 .any (Rows.diceEndsSpec.pre6 enc Try.prog Try.f7 Rows.diceEndsRow.domain false) (Rows.diceEndsSpec.post enc Try.prog Try.f7 false true false false) :=
  law_lifted os started 7 Try.f7 Rows.diceEndsSpec rfl rfl (by kernel_rfl) Try.func7 (by kernel_rfl) (by kernel_rfl)
    (ChangeSpec.witness6 (enc := enc) (C := Try.checked) false ⟨#[], #[.slice none 0 0, .int .i64 0, .int .i64 0, .slice none 0 0], []⟩ 8 (by kernel_rfl) (by kernel_rfl) (by kernel_rfl) (by kernel_rfl))
    (ends_gives enc)

theorem DiceEnds_holds : Rows.DiceEndsSaid :=
  OpenClaim.holds_of_wide 7 Try.f7 rfl rfl rfl rfl rfl rfl rfl ⟨rfl, rfl, rfl, rfl, rfl⟩ rfl rfl rfl rfl rfl (by kernel_rfl) Try.func7 (by kernel_rfl)
    (of_decide_eq_true (by kernel_rfl)) (by unfold Func.isWrapper; first | (rw [if_pos (by decide +kernel)]; kernel_rfl) | (rw [if_neg (by decide +kernel)]; exact ⟨rfl, rfl⟩))
    (fun os started H enc _ => ends_lifted os started H enc)

#print axioms DiceEnds_holds
end Go.Proofs.Ytllanhboaoedmaa

/-
  The law DiceAlone of layer 3 holds, for every input: what is drawn hangs on the octets from At on alone. No condition beyond the row's own.
-/
import Derived.Test.YtllanhboaoedmaaAlone
import Derived.Test.YtllanhboaoedmaaDRow
namespace Go.Proofs.Ytllanhboaoedmaa
open Go.ChangeShapes Go.WideShapes Go.ChangeAt Go.RowKit

theorem alone_gives {H : Type} (enc : TypeId × Value → H) : Gives enc 5 Try.f5.params.toList Rows.diceAloneSpec := by
  intro W base args ds p hval hA hsz hlt
  rw [Try.params5] at hA hval hsz
  obtain ⟨v0, vs0, d0, ds0, p0, q0, hargs, rfl, rfl, h0, r0⟩ := trodAll_cons hA
  obtain ⟨v1, vs1, d1, ds1, p1, q1, rfl, rfl, rfl, h1, r1⟩ := trodAll_cons r0
  obtain ⟨v2, vs2, d2, ds2, p2, q2, rfl, rfl, rfl, h2, r2⟩ := trodAll_cons r1
  obtain ⟨v3, vs3, d3, ds3, p3, q3, rfl, rfl, rfl, h3, r3⟩ := trodAll_cons r2
  obtain ⟨v4, vs4, d4, ds4, p4, q4, rfl, rfl, rfl, h4, r4⟩ := trodAll_cons r3
  obtain ⟨rfl, rfl, rfl⟩ := trodAll_nil r4
  obtain rfl : args = #[v0, v1, v2, v3, v4] := by cases args; simp_all
  refine ⟨rfl, ?_⟩
  obtain ⟨A0, n0, c0, zs0, rfl, hm0, hx0⟩ := open_octs Try.underlying22 (hval 0 22 v0 rfl rfl) h0 (fun x hx => hlt x (by simp [hx]))
  obtain ⟨A1, n1, c1, zs1, rfl, hm1, hx1⟩ := open_octs Try.underlying22 (hval 1 22 v1 rfl rfl) h1 (fun x hx => hlt x (by simp [hx]))
  obtain ⟨a2, rfl, rfl, rfl, w2⟩ := open_int Try.underlying3 (hval 2 3 v2 rfl rfl) h2
  obtain ⟨a3, rfl, rfl, rfl, w3⟩ := open_int Try.underlying3 (hval 3 3 v3 rfl rfl) h3
  obtain ⟨A4, n4, c4, zs4, rfl, hx4⟩ := open_nums Try.underlying25 (hval 4 25 v4 rfl rfl) h4 (fun x hx => hlt x (by simp [hx])) hsz (j := 4) rfl rfl
  exact alone_any A0 A1 A4 n0 c0 n1 c1 n4 c4 a2 a3 zs0 zs1 zs4 W hm0 hx0 hm1 hx1 hx4

set_option maxRecDepth 100000 in
theorem alone_lifted (os : Os) (started : os.Started) (H : Type) (enc : TypeId × Value → H) :
    ReturnsInHanded {} Try.checked os 5 .any (Rows.diceAloneSpec.pre6 enc Try.prog Try.f5 Rows.diceAloneRow.domain false) (Rows.diceAloneSpec.post enc Try.prog Try.f5 false true false false) :=
  law_lifted os started 5 Try.f5 Rows.diceAloneSpec rfl rfl (by kernel_rfl) Try.func5 (by kernel_rfl) (by kernel_rfl)
    (ChangeSpec.witness6 (enc := enc) (C := Try.checked) false ⟨#[], #[.slice none 0 0, .slice none 0 0, .int .i64 0, .int .i64 0, .slice none 0 0], []⟩ 8 (by kernel_rfl) (by kernel_rfl) (by kernel_rfl) (by kernel_rfl))
    (alone_gives enc)

theorem DiceAlone_holds : Rows.DiceAloneSaid :=
  OpenClaim.holds_of_wide 5 Try.f5 rfl rfl rfl rfl rfl rfl rfl ⟨rfl, rfl, rfl, rfl, rfl⟩ rfl rfl rfl rfl rfl (by kernel_rfl) Try.func5 (by kernel_rfl)
    (of_decide_eq_true (by kernel_rfl)) (by unfold Func.isWrapper; first | (rw [if_pos (by decide +kernel)]; kernel_rfl) | (rw [if_neg (by decide +kernel)]; exact ⟨rfl, rfl⟩))
    (fun os started H enc _ => alone_lifted os started H enc)

#print axioms DiceAlone_holds
end Go.Proofs.Ytllanhboaoedmaa

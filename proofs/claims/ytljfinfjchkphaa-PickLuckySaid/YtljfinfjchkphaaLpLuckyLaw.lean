/-
  The law PickLucky of layer 16 holds, for every input: of draws below the weights' sum as many come to each that is busy as it weighs. No condition beyond the row's own.
-/
import Derived.Test.YtljfinfjchkphaaLpLucky
import Derived.Test.YtljfinfjchkphaaPRowPk
namespace Go.Proofs.Ytljfinfjchkphaa
open Go.ChangeShapes Go.WideShapes Go.ChangeAt Go.RowKit

set_option maxRecDepth 100000 in
theorem picklucky_gives {H : Type} (enc : TypeId × Value → H) : Gives enc 5 Try.f5.params.toList Rows.pickLuckySpec := by
  intro W base args ds p hval hA hsz hlt
  rw [Try.params5] at hA hval hsz
  obtain ⟨v0, vs0, d0, ds0, p0, q0, hargs, rfl, rfl, h0, r0⟩ := trodAll_cons hA
  obtain ⟨v1, vs1, d1, ds1, p1, q1, rfl, rfl, rfl, h1, r1⟩ := trodAll_cons r0
  obtain ⟨rfl, rfl, rfl⟩ := trodAll_nil r1
  obtain rfl : args = #[v0, v1] := by cases args; simp_all
  refine ⟨rfl, ?_⟩
  obtain ⟨A0, n0, c0, zs0, rfl, hx0⟩ := open_nums Try.underlying25 (hval 0 25 v0 rfl rfl) h0 (fun x hx => hlt x (by simp [hx])) hsz (j := 0) rfl rfl
  obtain ⟨A1, n1, c1, G1, rfl, hm1, hx1⟩ := open_bigflags (hval 1 27 v1 rfl rfl) h1 (fun x hx => hlt x (by simp [hx]))
  exact picklucky_any A0 A1 n0 c0 n1 c1 zs0 G1 W hx0 hm1 hx1

set_option maxRecDepth 100000 in
theorem picklucky_lifted (os : Os) (started : os.Started) (H : Type) (enc : TypeId × Value → H) :
    ReturnsInHanded {} Try.checked os 5 .any (Rows.pickLuckySpec.pre6 enc Try.prog Try.f5 Rows.pickLuckyRow.domain false) (Rows.pickLuckySpec.post enc Try.prog Try.f5 false true false false) :=
  law_lifted os started 5 Try.f5 Rows.pickLuckySpec rfl rfl (by kernel_rfl) Try.func5 (by kernel_rfl) (by kernel_rfl)
    (ChangeSpec.witness6 (enc := enc) (C := Try.checked) false ⟨#[], #[.slice none 0 0, .slice none 0 0], []⟩ 8 (by kernel_rfl) (by kernel_rfl) (by kernel_rfl) (by kernel_rfl))
    (picklucky_gives enc)

set_option maxRecDepth 100000 in
theorem PickLucky_holds : Rows.PickLuckySaid :=
  OpenClaim.holds_of_wide 5 Try.f5 rfl rfl rfl rfl rfl rfl rfl ⟨rfl, rfl, rfl, rfl, rfl⟩ rfl rfl rfl rfl rfl (by kernel_rfl) Try.func5 (by kernel_rfl)
    (of_decide_eq_true (by kernel_rfl)) (by unfold Func.isWrapper; first | (rw [if_pos (by decide +kernel)]; kernel_rfl) | (rw [if_neg (by decide +kernel)]; exact ⟨rfl, rfl⟩))
    (fun os started H enc _ => picklucky_lifted os started H enc)

#print axioms PickLucky_holds
end Go.Proofs.Ytljfinfjchkphaa

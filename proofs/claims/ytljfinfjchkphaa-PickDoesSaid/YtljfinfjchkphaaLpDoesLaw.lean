/-
  The law PickDoes of layer 16 holds, for every input: whom any worker asks, of whom it steals, any tenant by weights, and how much is stolen and spills over, are what the document says, or are refused for the same reason. No condition beyond the row's own.
-/
import Derived.Test.YtljfinfjchkphaaLpDoes
import Derived.Test.YtljfinfjchkphaaPRowPk
namespace Go.Proofs.Ytljfinfjchkphaa
open Go.ChangeShapes Go.WideShapes Go.ChangeAt Go.RowKit

set_option maxRecDepth 100000 in
theorem pickdoes_gives {H : Type} (enc : TypeId × Value → H) : Gives enc 3 Try.f3.params.toList Rows.pickDoesSpec := by
  intro W base args ds p hval hA hsz hlt
  rw [Try.params3] at hA hval hsz
  obtain ⟨v0, vs0, d0, ds0, p0, q0, hargs, rfl, rfl, h0, r0⟩ := trodAll_cons hA
  obtain ⟨v1, vs1, d1, ds1, p1, q1, rfl, rfl, rfl, h1, r1⟩ := trodAll_cons r0
  obtain ⟨v2, vs2, d2, ds2, p2, q2, rfl, rfl, rfl, h2, r2⟩ := trodAll_cons r1
  obtain ⟨v3, vs3, d3, ds3, p3, q3, rfl, rfl, rfl, h3, r3⟩ := trodAll_cons r2
  obtain ⟨v4, vs4, d4, ds4, p4, q4, rfl, rfl, rfl, h4, r4⟩ := trodAll_cons r3
  obtain ⟨v5, vs5, d5, ds5, p5, q5, rfl, rfl, rfl, h5, r5⟩ := trodAll_cons r4
  obtain ⟨rfl, rfl, rfl⟩ := trodAll_nil r5
  obtain rfl : args = #[v0, v1, v2, v3, v4, v5] := by cases args; simp_all
  refine ⟨rfl, ?_⟩
  obtain ⟨A0, n0, c0, z0, zs0, rfl, hm0, hx0, fz0⟩ := open_dice (hval 0 24 v0 rfl rfl) h0 (fun x hx => hlt x (by simp [hx]))
  obtain ⟨a1, rfl, rfl, rfl, w1⟩ := open_int Try.underlying3 (hval 1 3 v1 rfl rfl) h1
  obtain ⟨a2, rfl, rfl, rfl, w2⟩ := open_int Try.underlying3 (hval 2 3 v2 rfl rfl) h2
  obtain ⟨A3, n3, c3, zs3, rfl, hx3⟩ := open_nums Try.underlying25 (hval 3 25 v3 rfl rfl) h3 (fun x hx => hlt x (by simp [hx])) hsz (j := 3) rfl rfl
  obtain ⟨A4, n4, c4, l4, rfl, hx4⟩ := open_tns (hval 4 26 v4 rfl rfl) h4 (fun x hx => hlt x (by simp [hx]))
  obtain ⟨A5, n5, c5, zs5, rfl, hm5, hx5⟩ := open_flags (hval 5 27 v5 rfl rfl) h5 (fun x hx => hlt x (by simp [hx]))
  exact pickdoes_any A0 A3 A4 A5 n0 c0 n3 c3 n4 c4 n5 c5 z0 a1 a2 zs0 zs3 l4 zs5 W hm0 hx0 hx3 hx4 hm5 hx5 (fit_of_wf w1)

set_option maxRecDepth 100000 in
theorem pickdoes_lifted (os : Os) (started : os.Started) (H : Type) (enc : TypeId × Value → H) :
    ReturnsInHanded {} Try.checked os 3 .any (Rows.pickDoesSpec.pre6 enc Try.prog Try.f3 Rows.pickDoesRow.domain false) (Rows.pickDoesSpec.post enc Try.prog Try.f3 false true false false) :=
  law_lifted os started 3 Try.f3 Rows.pickDoesSpec rfl rfl (by kernel_rfl) Try.func3 (by kernel_rfl) (by kernel_rfl)
    (ChangeSpec.witness6 (enc := enc) (C := Try.checked) false ⟨#[], #[.agg #[.slice none 0 0, .int .i64 0], .int .i64 0, .int .i64 0, .slice none 0 0, .slice none 0 0, .slice none 0 0], []⟩ 8 (by kernel_rfl) (by kernel_rfl) (by kernel_rfl) (by kernel_rfl))
    (pickdoes_gives enc)

set_option maxRecDepth 100000 in
theorem PickDoes_holds : Rows.PickDoesSaid :=
  OpenClaim.holds_of_wide 3 Try.f3 rfl rfl rfl rfl rfl rfl rfl ⟨rfl, rfl, rfl, rfl, rfl⟩ rfl rfl rfl rfl rfl (by kernel_rfl) Try.func3 (by kernel_rfl)
    (of_decide_eq_true (by kernel_rfl)) (by unfold Func.isWrapper; first | (rw [if_pos (by decide +kernel)]; kernel_rfl) | (rw [if_neg (by decide +kernel)]; exact ⟨rfl, rfl⟩))
    (fun os started H enc _ => pickdoes_lifted os started H enc)

#print axioms PickDoes_holds
end Go.Proofs.Ytljfinfjchkphaa

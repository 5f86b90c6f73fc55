/-
  The law PickOnce of layer 16 holds, for every input: each other worker is asked just once; of whom one steals has something, and all that were asked ahead have nothing. No condition beyond the row's own.
-/
import Derived.Test.YtljfinfjchkphaaLpOnce
import Derived.Test.YtljfinfjchkphaaPRowPk
namespace Go.Proofs.Ytljfinfjchkphaa
open Go.ChangeShapes Go.WideShapes Go.ChangeAt Go.RowKit

set_option maxRecDepth 100000 in
theorem pickonce_gives {H : Type} (enc : TypeId × Value → H) : Gives enc 4 Try.f4.params.toList Rows.pickOnceSpec := by
  intro W base args ds p hval hA hsz hlt
  rw [Try.params4] at hA hval hsz
  obtain ⟨v0, vs0, d0, ds0, p0, q0, hargs, rfl, rfl, h0, r0⟩ := trodAll_cons hA
  obtain ⟨v1, vs1, d1, ds1, p1, q1, rfl, rfl, rfl, h1, r1⟩ := trodAll_cons r0
  obtain ⟨v2, vs2, d2, ds2, p2, q2, rfl, rfl, rfl, h2, r2⟩ := trodAll_cons r1
  obtain ⟨rfl, rfl, rfl⟩ := trodAll_nil r2
  obtain rfl : args = #[v0, v1, v2] := by cases args; simp_all
  refine ⟨rfl, ?_⟩
  obtain ⟨A0, n0, c0, z0, zs0, rfl, hm0, hx0, fz0⟩ := open_dice (hval 0 24 v0 rfl rfl) h0 (fun x hx => hlt x (by simp [hx]))
  obtain ⟨A1, n1, c1, zs1, rfl, hx1⟩ := open_nums Try.underlying25 (hval 1 25 v1 rfl rfl) h1 (fun x hx => hlt x (by simp [hx])) hsz (j := 1) rfl rfl
  obtain ⟨a2, rfl, rfl, rfl, w2⟩ := open_int Try.underlying3 (hval 2 3 v2 rfl rfl) h2
  exact pickonce_any A0 A1 n0 c0 n1 c1 z0 a2 zs0 zs1 W hm0 hx0 hx1

set_option maxRecDepth 100000 in
theorem pickonce_lifted (os : Os) (started : os.Started) (H : Type) (enc : TypeId × Value → H) :
    ReturnsInHanded {} Try.checked os 4 .any (Rows.pickOnceSpec.pre6 enc Try.prog Try.f4 Rows.pickOnceRow.domain false) (Rows.pickOnceSpec.post enc Try.prog Try.f4 false true false false) :=
  law_lifted os started 4 Try.f4 Rows.pickOnceSpec rfl rfl (by kernel_rfl) Try.func4 (by kernel_rfl) (by kernel_rfl)
    (ChangeSpec.witness6 (enc := enc) (C := Try.checked) false ⟨#[], #[.agg #[.slice none 0 0, .int .i64 0], .slice none 0 0, .int .i64 0], []⟩ 8 (by kernel_rfl) (by kernel_rfl) (by kernel_rfl) (by kernel_rfl))
    (pickonce_gives enc)

set_option maxRecDepth 100000 in
theorem PickOnce_holds : Rows.PickOnceSaid :=
  OpenClaim.holds_of_wide 4 Try.f4 rfl rfl rfl rfl rfl rfl rfl ⟨rfl, rfl, rfl, rfl, rfl⟩ rfl rfl rfl rfl rfl (by kernel_rfl) Try.func4 (by kernel_rfl)
    (of_decide_eq_true (by kernel_rfl)) (by unfold Func.isWrapper; first | (rw [if_pos (by decide +kernel)]; kernel_rfl) | (rw [if_neg (by decide +kernel)]; exact ⟨rfl, rfl⟩))
    (fun os started H enc _ => pickonce_lifted os started H enc)

#print axioms PickOnce_holds
end Go.Proofs.Ytljfinfjchkphaa

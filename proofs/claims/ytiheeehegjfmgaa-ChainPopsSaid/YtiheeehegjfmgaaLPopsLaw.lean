/-
  The law ChainPops of layer 6 holds, for every input: popped one by one a list comes in order, till it has none; all other lists stay. No condition beyond the row's own.
-/
import Derived.Test.YtiheeehegjfmgaaLPops
import Derived.Test.YtiheeehegjfmgaaPRow
namespace Go.Proofs.Ytiheeehegjfmgaa
open Go.ChangeShapes Go.WideShapes Go.ChangeAt Go.RowKit

theorem lpops_gives {H : Type} (enc : TypeId × Value → H) : Gives enc 8 Try.f8.params.toList Rows.chainPopsSpec := by
  intro W base args ds p hval hA hsz hlt
  rw [Try.params8] at hA hval hsz
  obtain ⟨v0, vs0, d0, ds0, p0, q0, hargs, rfl, rfl, h0, r0⟩ := trodAll_cons hA
  obtain ⟨v1, vs1, d1, ds1, p1, q1, rfl, rfl, rfl, h1, r1⟩ := trodAll_cons r0
  obtain ⟨rfl, rfl, rfl⟩ := trodAll_nil r1
  obtain rfl : args = #[v0, v1] := by cases args; simp_all
  refine ⟨rfl, ?_⟩
  obtain ⟨A0, n0, c0, B0, m0, e0, D0, k0, g0, xs0, ys0, zs0, rfl, hn0, hm0, hk0, hx0⟩ := open_chn (hval 0 24 v0 rfl rfl) h0 (fun x hx => hlt x (by simp [hx]))
  obtain ⟨a1, rfl, rfl, rfl, w1⟩ := open_int Try.underlying3 (hval 1 3 v1 rfl rfl) h1
  exact lpops_any A0 B0 D0 n0 c0 m0 e0 k0 g0 xs0 ys0 zs0 a1 W hn0 hm0 hk0 hx0

set_option maxRecDepth 100000 in
theorem lpops_lifted (os : Os) (started : os.Started) (H : Type) (enc : TypeId × Value → H) :
    ReturnsInHanded {} Try.checked os 8 .any (Rows.chainPopsSpec.pre6 enc Try.prog Try.f8 Rows.chainPopsRow.domain false) (Rows.chainPopsSpec.post enc Try.prog Try.f8 false true false false) :=
  law_lifted os started 8 Try.f8 Rows.chainPopsSpec rfl rfl (by kernel_rfl) Try.func8 (by kernel_rfl) (by kernel_rfl)
    (ChangeSpec.witness6 (enc := enc) (C := Try.checked) false ⟨#[], #[.agg #[.slice none 0 0, .slice none 0 0, .slice none 0 0], .int .i64 0], []⟩ 8 (by kernel_rfl) (by kernel_rfl) (by kernel_rfl) (by kernel_rfl))
    (lpops_gives enc)

theorem ChainPops_holds : Rows.ChainPopsSaid :=
  OpenClaim.holds_of_wide 8 Try.f8 rfl rfl rfl rfl rfl rfl rfl ⟨rfl, rfl, rfl, rfl, rfl⟩ rfl rfl rfl rfl rfl (by kernel_rfl) Try.func8 (by kernel_rfl)
    (of_decide_eq_true (by kernel_rfl)) (by unfold Func.isWrapper; first | (rw [if_pos (by decide +kernel)]; kernel_rfl) | (rw [if_neg (by decide +kernel)]; exact ⟨rfl, rfl⟩))
    (fun os started H enc _ => lpops_lifted os started H enc)

#print axioms ChainPops_holds
end Go.Proofs.Ytiheeehegjfmgaa

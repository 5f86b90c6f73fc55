/-
  The law ChainWhere of layer 6 holds, for every input: a node is in just that list whose nodes it is one of; all lists together have as many nodes as are in some. No condition beyond the row's own.
-/
import Derived.Test.YtiheeehegjfmgaaLWhere
import Derived.Test.YtiheeehegjfmgaaPRow
namespace Go.Proofs.Ytiheeehegjfmgaa
open Go.ChangeShapes Go.WideShapes Go.ChangeAt Go.RowKit

theorem lwhere_gives {H : Type} (enc : TypeId × Value → H) : Gives enc 7 Try.f7.params.toList Rows.chainWhereSpec := by
  intro W base args ds p hval hA hsz hlt
  rw [Try.params7] at hA hval hsz
  obtain ⟨v0, vs0, d0, ds0, p0, q0, hargs, rfl, rfl, h0, r0⟩ := trodAll_cons hA
  obtain ⟨rfl, rfl, rfl⟩ := trodAll_nil r0
  obtain rfl : args = #[v0] := by cases args; simp_all
  refine ⟨rfl, ?_⟩
  obtain ⟨A0, n0, c0, B0, m0, e0, D0, k0, g0, xs0, ys0, zs0, rfl, hn0, hm0, hk0, hx0⟩ := open_chn (hval 0 24 v0 rfl rfl) h0 (fun x hx => hlt x (by simp [hx]))
  exact lwhere_any A0 B0 D0 n0 c0 m0 e0 k0 g0 xs0 ys0 zs0 W hn0 hm0 hk0 hx0

set_option maxRecDepth 100000 in
theorem lwhere_lifted (os : Os) (started : os.Started) (H : Type) (enc : TypeId × Value → H) :
    ReturnsInHanded {} Try.checked os 7 .any (Rows.chainWhereSpec.pre6 enc Try.prog Try.f7 Rows.chainWhereRow.domain false) (Rows.chainWhereSpec.post enc Try.prog Try.f7 false true false false) :=
  law_lifted os started 7 Try.f7 Rows.chainWhereSpec rfl rfl (by kernel_rfl) Try.func7 (by kernel_rfl) (by kernel_rfl)
    (ChangeSpec.witness6 (enc := enc) (C := Try.checked) false ⟨#[], #[.agg #[.slice none 0 0, .slice none 0 0, .slice none 0 0]], []⟩ 8 (by kernel_rfl) (by kernel_rfl) (by kernel_rfl) (by kernel_rfl))
    (lwhere_gives enc)

theorem ChainWhere_holds : Rows.ChainWhereSaid :=
  OpenClaim.holds_of_wide 7 Try.f7 rfl rfl rfl rfl rfl rfl rfl ⟨rfl, rfl, rfl, rfl, rfl⟩ rfl rfl rfl rfl rfl (by kernel_rfl) Try.func7 (by kernel_rfl)
    (of_decide_eq_true (by kernel_rfl)) (by unfold Func.isWrapper; first | (rw [if_pos (by decide +kernel)]; kernel_rfl) | (rw [if_neg (by decide +kernel)]; exact ⟨rfl, rfl⟩))
    (fun os started H enc _ => lwhere_lifted os started H enc)

#print axioms ChainWhere_holds
end Go.Proofs.Ytiheeehegjfmgaa

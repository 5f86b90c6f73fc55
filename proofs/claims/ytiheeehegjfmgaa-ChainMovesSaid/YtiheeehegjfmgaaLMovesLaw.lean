/-
  The law ChainMoves of layer 6 holds, for every input: any node pushed, popped and cut, and any list put behind another one, of any chains, are the document's, and the chains stay. No condition beyond the row's own.
-/
import Derived.Test.YtiheeehegjfmgaaLMoves
import Derived.Test.YtiheeehegjfmgaaPRow
namespace Go.Proofs.Ytiheeehegjfmgaa
open Go.ChangeShapes Go.WideShapes Go.ChangeAt Go.RowKit

theorem lmoves_gives {H : Type} (enc : TypeId × Value → H) : Gives enc 3 Try.f3.params.toList Rows.chainMovesSpec := by
  intro W base args ds p hval hA hsz hlt
  rw [Try.params3] at hA hval hsz
  obtain ⟨v0, vs0, d0, ds0, p0, q0, hargs, rfl, rfl, h0, r0⟩ := trodAll_cons hA
  obtain ⟨v1, vs1, d1, ds1, p1, q1, rfl, rfl, rfl, h1, r1⟩ := trodAll_cons r0
  obtain ⟨v2, vs2, d2, ds2, p2, q2, rfl, rfl, rfl, h2, r2⟩ := trodAll_cons r1
  obtain ⟨v3, vs3, d3, ds3, p3, q3, rfl, rfl, rfl, h3, r3⟩ := trodAll_cons r2
  obtain ⟨rfl, rfl, rfl⟩ := trodAll_nil r3
  obtain rfl : args = #[v0, v1, v2, v3] := by cases args; simp_all
  refine ⟨rfl, ?_⟩
  obtain ⟨A0, n0, c0, B0, m0, e0, D0, k0, g0, xs0, ys0, zs0, rfl, hn0, hm0, hk0, hx0⟩ := open_chn (hval 0 24 v0 rfl rfl) h0 (fun x hx => hlt x (by simp [hx]))
  obtain ⟨a1, rfl, rfl, rfl, w1⟩ := open_int Try.underlying3 (hval 1 3 v1 rfl rfl) h1
  obtain ⟨a2, rfl, rfl, rfl, w2⟩ := open_int Try.underlying3 (hval 2 3 v2 rfl rfl) h2
  obtain ⟨a3, rfl, rfl, rfl, w3⟩ := open_int Try.underlying3 (hval 3 3 v3 rfl rfl) h3
  exact lmoves_any A0 B0 D0 n0 c0 m0 e0 k0 g0 xs0 ys0 zs0 a1 a2 a3 W hn0 hm0 hk0 hx0

set_option maxRecDepth 100000 in
theorem lmoves_lifted (os : Os) (started : os.Started) (H : Type) (enc : TypeId × Value → H) :
    ReturnsInHanded {} Try.checked os 3 .any (Rows.chainMovesSpec.pre6 enc Try.prog Try.f3 Rows.chainMovesRow.domain false) (Rows.chainMovesSpec.post enc Try.prog Try.f3 false true false false) :=
  law_lifted os started 3 Try.f3 Rows.chainMovesSpec rfl rfl (by kernel_rfl) Try.func3 (by kernel_rfl) (by kernel_rfl)
    (ChangeSpec.witness6 (enc := enc) (C := Try.checked) false ⟨#[], #[.agg #[.slice none 0 0, .slice none 0 0, .slice none 0 0], .int .i64 0, .int .i64 0, .int .i64 0], []⟩ 8 (by kernel_rfl) (by kernel_rfl) (by kernel_rfl) (by kernel_rfl))
    (lmoves_gives enc)

theorem ChainMoves_holds : Rows.ChainMovesSaid :=
  OpenClaim.holds_of_wide 3 Try.f3 rfl rfl rfl rfl rfl rfl rfl ⟨rfl, rfl, rfl, rfl, rfl⟩ rfl rfl rfl rfl rfl (by kernel_rfl) Try.func3 (by kernel_rfl)
    (of_decide_eq_true (by kernel_rfl)) (by unfold Func.isWrapper; first | (rw [if_pos (by decide +kernel)]; kernel_rfl) | (rw [if_neg (by decide +kernel)]; exact ⟨rfl, rfl⟩))
    (fun os started H enc _ => lmoves_lifted os started H enc)

#print axioms ChainMoves_holds
end Go.Proofs.Ytiheeehegjfmgaa

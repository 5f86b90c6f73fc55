/-
  The law EntryConfigs of layer 19 holds, for every input: whether any config may be, and whether two are the same, are what the document says. No condition beyond the row's own.
-/
import Derived.Test.YtpfnoohcilefhaaLeConfigs
import Derived.Test.YtpfnoohcilefhaaPRowCf
namespace Go.Proofs.Ytpfnoohcilefhaa
open Go.ChangeShapes Go.WideShapes Go.ChangeAt Go.RowKit

set_option maxRecDepth 100000 in
theorem leconfigs_gives {H : Type} (enc : TypeId × Value → H) : Gives enc 3 Try.f3.params.toList Rows.entryConfigsSpec := by
  intro W base args ds p hval hA hsz hlt
  rw [Try.params3] at hA hval hsz
  obtain ⟨v0, vs0, d0, ds0, p0, q0, hargs, rfl, rfl, h0, r0⟩ := trodAll_cons hA
  obtain ⟨v1, vs1, d1, ds1, p1, q1, rfl, rfl, rfl, h1, r1⟩ := trodAll_cons r0
  obtain ⟨rfl, rfl, rfl⟩ := trodAll_nil r1
  obtain rfl : args = #[v0, v1] := by cases args; simp_all
  refine ⟨rfl, ?_⟩
  obtain ⟨x0, a0, rfl, hx0⟩ := open_cfg (hval 0 25 v0 rfl rfl) h0 (fun x hx => hlt x (by simp [hx])) hsz (j := 0) rfl rfl
  obtain ⟨x1, a1, rfl, hx1⟩ := open_cfg (hval 1 25 v1 rfl rfl) h1 (fun x hx => hlt x (by simp [hx])) hsz (j := 1) rfl rfl
  exact leconfigs_any x0 x1 a0 a1 W hx0 hx1

set_option maxRecDepth 100000 in
theorem leconfigs_lifted (os : Os) (started : os.Started) (H : Type) (enc : TypeId × Value → H) :
    ReturnsInHanded {} Try.checked os 3 .any (Rows.entryConfigsSpec.pre6 enc Try.prog Try.f3 Rows.entryConfigsRow.domain false) (Rows.entryConfigsSpec.post enc Try.prog Try.f3 false true false false) :=
  law_lifted os started 3 Try.f3 Rows.entryConfigsSpec rfl rfl (by kernel_rfl) Try.func3 (by kernel_rfl) (by kernel_rfl)
    (ChangeSpec.witness6 (enc := enc) (C := Try.checked) false ⟨#[], #[.agg #[.int .i64 0, .int .i64 0, .int .i64 0, .slice none 0 0, .slice none 0 0, .slice none 0 0, .int .i64 0, .int .i64 0, .slice none 0 0], .agg #[.int .i64 0, .int .i64 0, .int .i64 0, .slice none 0 0, .slice none 0 0, .slice none 0 0, .int .i64 0, .int .i64 0, .slice none 0 0]], []⟩ 8 (by kernel_rfl) (by kernel_rfl) (by kernel_rfl) (by kernel_rfl))
    (leconfigs_gives enc)

set_option maxRecDepth 100000 in
theorem EntryConfigs_holds : Rows.EntryConfigsSaid :=
  OpenClaim.holds_of_wide 3 Try.f3 rfl rfl rfl rfl rfl rfl rfl ⟨rfl, rfl, rfl, rfl, rfl⟩ rfl rfl rfl rfl rfl (by kernel_rfl) Try.func3 (by kernel_rfl)
    (of_decide_eq_true (by kernel_rfl)) (by unfold Func.isWrapper; first | (rw [if_pos (by decide +kernel)]; kernel_rfl) | (rw [if_neg (by decide +kernel)]; exact ⟨rfl, rfl⟩))
    (fun os started H enc _ => leconfigs_lifted os started H enc)

#print axioms EntryConfigs_holds
end Go.Proofs.Ytpfnoohcilefhaa

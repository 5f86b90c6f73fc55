/-
  The law EntryOnly of layer 19 holds, for every input: those of each kind, taken together, are all, each once; a script that may be has such alone. No condition beyond the row's own.
-/
import Derived.Test.YtpfnoohcilefhaaLeOnly
import Derived.Test.YtpfnoohcilefhaaPRowEn
namespace Go.Proofs.Ytpfnoohcilefhaa
open Go.ChangeShapes Go.WideShapes Go.ChangeAt Go.RowKit

set_option maxRecDepth 100000 in
theorem leonly_gives {H : Type} (enc : TypeId × Value → H) : Gives enc 7 Try.f7.params.toList Rows.entryOnlySpec := by
  intro W base args ds p hval hA hsz hlt
  rw [Try.params7] at hA hval hsz
  obtain ⟨v0, vs0, d0, ds0, p0, q0, hargs, rfl, rfl, h0, r0⟩ := trodAll_cons hA
  obtain ⟨rfl, rfl, rfl⟩ := trodAll_nil r0
  obtain rfl : args = #[v0] := by cases args; simp_all
  refine ⟨rfl, ?_⟩
  obtain ⟨A0, n0, c0, l0, rfl, hx0⟩ := open_ens (hval 0 31 v0 rfl rfl) h0 (fun x hx => hlt x (by simp [hx]))
  exact leonly_any A0 n0 c0 l0 W hx0

set_option maxRecDepth 100000 in
theorem leonly_lifted (os : Os) (started : os.Started) (H : Type) (enc : TypeId × Value → H) :
    ReturnsInHanded {} Try.checked os 7 .any (Rows.entryOnlySpec.pre6 enc Try.prog Try.f7 Rows.entryOnlyRow.domain false) (Rows.entryOnlySpec.post enc Try.prog Try.f7 false true false false) :=
  law_lifted os started 7 Try.f7 Rows.entryOnlySpec rfl rfl (by kernel_rfl) Try.func7 (by kernel_rfl) (by kernel_rfl)
    (ChangeSpec.witness6 (enc := enc) (C := Try.checked) false ⟨#[], #[.slice none 0 0], []⟩ 8 (by kernel_rfl) (by kernel_rfl) (by kernel_rfl) (by kernel_rfl))
    (leonly_gives enc)

set_option maxRecDepth 100000 in
theorem EntryOnly_holds : Rows.EntryOnlySaid :=
  OpenClaim.holds_of_wide 7 Try.f7 rfl rfl rfl rfl rfl rfl rfl ⟨rfl, rfl, rfl, rfl, rfl⟩ rfl rfl rfl rfl rfl (by kernel_rfl) Try.func7 (by kernel_rfl)
    (of_decide_eq_true (by kernel_rfl)) (by unfold Func.isWrapper; first | (rw [if_pos (by decide +kernel)]; kernel_rfl) | (rw [if_neg (by decide +kernel)]; exact ⟨rfl, rfl⟩))
    (fun os started H enc _ => leonly_lifted os started H enc)

#print axioms EntryOnly_holds
end Go.Proofs.Ytpfnoohcilefhaa

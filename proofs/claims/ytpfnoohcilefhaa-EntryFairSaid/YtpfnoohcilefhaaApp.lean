/-
  Appends onto rows of the call's own: small facts on how such a row lies, and what an append leaves. Over no program.
-/
import Derived.Test.YtpfnoohcilefhaaKit
namespace Go.Proofs.Ytpfnoohcilefhaa
open Go.RowKit

section
variable {E : TypeId} {w w' W : World} {base B : Nat} {A : Option Addr} {c n : Nat} {zs : List Int}
theorem OwnI.cap (h : OwnI E w base A c zs) : zs.length ≤ c ∧ c ≤ 9223372036854775807 := by
  rcases h.2.2.2 with ⟨e, h0⟩ | ⟨g, cap, cur, e, _, _, hc, hm, _⟩
  · injection e with _ e2 e3
    omega
  · injection e with _ _ e3
    subst e3
    unfold maxLen at hm
    omega
theorem OwnI.intsN (h : OwnI E w base A c zs) (hl : zs.length = n) : Ints w A n zs := hl ▸ h.ints
theorem below_app (hb : Below B W w) (ho : OwnI E w B A c zs) (hg : w.grownBy w' (Value.slice A n c).ownBlock) (hs : B ≤ w.heap.size := by first | exact Nat.le_refl _ | omega) : Below B W w' :=
  hb.grown hg hs (by intro k hk; exact ho.block k hk)
theorem below_app0 (hg : w.grownBy w' (Value.slice none n c).ownBlock) : Below w.heap.size w w' := (Below.refl w.heap.size w).grown hg (Nat.le_refl _) (by simp [Value.ownBlock])
end

end Go.Proofs.Ytpfnoohcilefhaa

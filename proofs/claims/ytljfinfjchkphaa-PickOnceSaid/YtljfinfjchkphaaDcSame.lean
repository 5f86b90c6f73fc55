/-
  When dice are the same.
-/
import Derived.Test.YtljfinfjchkphaaDcHeavy2
import Derived.Test.YtljfinfjchkphaaDcOrder
namespace Go.Proofs.Ytljfinfjchkphaa
open Go.RowKit

/-- Are two dice the same? (A word that the walk does not open.) -/
def dsame (p q : Int) (xs ys : List Int) : Bool := decide (p = q) && sameB xs ys

theorem dsame_refl (p : Int) (xs : List Int) : dsame p p xs xs = true := by unfold dsame; rw [sameB_refl]; simp

end Go.Proofs.Ytljfinfjchkphaa

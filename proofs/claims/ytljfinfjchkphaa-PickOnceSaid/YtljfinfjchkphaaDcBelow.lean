/-
  The contracts of dice.Below: what is drawn below a number, and the dice then; and of dice that may not be, and numbers that may not be.
-/
import Derived.Test.YtljfinfjchkphaaDcDraws
namespace Go.Proofs.Ytljfinfjchkphaa
open Go.RowKit

/-- Three are handed back: a value, dice (their octets in memory of the call's own), an error. -/
def TripD (k : Value) (bs : List Int) (p err : Int) (w : World) (e : Ending) (w' : World) : Prop :=
  ∃ A c, e = .returned (.tuple #[k, .agg #[.slice A bs.length c, .int .i64 p], .int .i64 err]) ∧ OwnO 5 w' w.heap.size A c bs ∧ Below w.heap.size w w'

section
variable {w : World} {g : Nat} {t : TypeId} {u v : Value}
end

/-- Nothing is handed back but an error. -/
theorem trip_none {k : Value} {err : Int} {w w' : World} (hb : Below w.heap.size w w') : TripD k [] 0 err w (.returned (.tuple #[k, .agg #[.slice none 0 0, .int .i64 0], .int .i64 err])) w' :=
  ⟨none, 0, rfl, OwnO.nil_ _ _ _, hb⟩

end Go.Proofs.Ytljfinfjchkphaa

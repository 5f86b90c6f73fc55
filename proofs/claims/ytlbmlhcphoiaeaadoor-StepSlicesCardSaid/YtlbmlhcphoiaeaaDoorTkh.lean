/-
  Layer 12: the document's Trace; the chapter's example comes to true.
-/
import Derived.Test.YtlbmlhcphoiaeaaDoorTkg
import Derived.StillTailTactics
namespace Go.Proofs.YtlbmlhcphoiaeaaDoor
open Go.RowKit

theorem ints_of_bk {w : World} {g : Nat} {E : TypeId} {zs : List Int} (h : Bk w g E (zs.map (Value.int .i64)).toArray) (hf : ∀ z ∈ zs, Fit z) (hl : zs.length * 8 ≤ 140737488351232) : Ints w (some ⟨g, 0, none⟩) zs.length zs :=
  ⟨rfl, hl, hf, fun _ => ⟨g, 0, rfl, h.lt, fun j hj => by rw [h.cell (0 + j)]; simp [hj, nth, List.getD]⟩⟩
theorem live_ok : traceR [1, 2, 3, 1, 2, 7] = (6, 0) := by decide
theorem live_no : legB 3 2 = false := by decide

end Go.Proofs.YtlbmlhcphoiaeaaDoor

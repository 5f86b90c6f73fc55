/-
  Small lemmas on a block of five cells, and of how the first variable of a function lies. Over no program.
-/
import Derived.Test.YtpfnoohcilefhaaBlk
import Derived.Test.YtpfnoohcilefhaaKit
namespace Go.Proofs.Ytpfnoohcilefhaa
open Go.RowKit

theorem lay1 (w : World) (x : Array Value) (t : TypeId) : Bk (w.alloc (.cells x t)) w.heap.size t x ∧ Below w.heap.size w (w.alloc (.cells x t)) := ⟨Bk.new w t x, (Below.refl w.heap.size w).alloc (Nat.le_refl _) _⟩
section
variable {w W : World} {g : Nat} {t : TypeId} {c0 c1 c2 c3 c4 : Value}
theorem Bk.c5 (h : Bk w g t #[c0, c1, c2, c3, c4]) : w.cell? ⟨g, 0, none⟩ = some c0 ∧ w.cell? ⟨g, 1, none⟩ = some c1 ∧ w.cell? ⟨g, 2, none⟩ = some c2 ∧ w.cell? ⟨g, 3, none⟩ = some c3 ∧ w.cell? ⟨g, 4, none⟩ = some c4 := ⟨h.cell 0, h.cell 1, h.cell 2, h.cell 3, h.cell 4⟩
theorem Bk.f5 {cs : Array Value} (h : Bk w g t cs) : w.frozen? ⟨g, 0, none⟩ = false ∧ w.frozen? ⟨g, 1, none⟩ = false ∧ w.frozen? ⟨g, 2, none⟩ = false ∧ w.frozen? ⟨g, 3, none⟩ = false ∧ w.frozen? ⟨g, 4, none⟩ = false := ⟨h.frozen 0, h.frozen 1, h.frozen 2, h.frozen 3, h.frozen 4⟩
end

end Go.Proofs.Ytpfnoohcilefhaa

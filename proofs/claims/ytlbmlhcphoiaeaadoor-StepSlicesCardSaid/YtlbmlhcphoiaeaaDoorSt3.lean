/-
  Small lemmas on blocks of three cells, and of how the first variables of a function lie. Over no program.
-/
import Derived.Test.YtlbmlhcphoiaeaaDoorTkd
import Derived.Test.YtlbmlhcphoiaeaaDoorKit
namespace Go.Proofs.YtlbmlhcphoiaeaaDoor
open Go.RowKit

section
variable {w W : World} {g : Nat} {t : TypeId} {c0 c1 c2 : Value}
theorem Bk.c3 (h : Bk w g t #[c0, c1, c2]) : w.cell? ⟨g, 0, none⟩ = some c0 ∧ w.cell? ⟨g, 1, none⟩ = some c1 ∧ w.cell? ⟨g, 2, none⟩ = some c2 := ⟨h.cell 0, h.cell 1, h.cell 2⟩
theorem Bk.f3 {cs : Array Value} (h : Bk w g t cs) : w.frozen? ⟨g, 0, none⟩ = false ∧ w.frozen? ⟨g, 1, none⟩ = false ∧ w.frozen? ⟨g, 2, none⟩ = false := ⟨h.frozen 0, h.frozen 1, h.frozen 2⟩
def set3 (W : World) (g : Nat) (v0 v1 v2 : Value) : World := ((W.setCell ⟨g, 0, none⟩ v0).setCell ⟨g, 1, none⟩ v1).setCell ⟨g, 2, none⟩ v2
theorem bk_set3 (h : Bk W g t #[c0, c1, c2]) (v0 v1 v2 : Value) : Bk (set3 W g v0 v1 v2) g t #[v0, v1, v2] := by
  have a0 : Bk (_) g t #[v0, c1, c2] := h.set_ 0 v0
  have a1 : Bk (_) g t #[v0, v1, c2] := a0.set_ 1 v1
  have a2 : Bk (_) g t #[v0, v1, v2] := a1.set_ 2 v2
  exact a2
theorem below_set3 {B : Nat} (h : Below B w W) (hg : B ≤ g) (v0 v1 v2 : Value) : Below B w (set3 W g v0 v1 v2) :=
  ((h.setCell (p := ⟨g, 0, none⟩) hg v0).setCell (p := ⟨g, 1, none⟩) hg v1).setCell (p := ⟨g, 2, none⟩) hg v2
theorem far_set3 {k : Nat} {cs : Array Value} {u : TypeId} (h : Bk W k u cs) (hne : k ≠ g) (v0 v1 v2 : Value) : Bk (set3 W g v0 v1 v2) k u cs :=
  ((h.far (p := ⟨g, 0, none⟩) hne v0).far (p := ⟨g, 1, none⟩) hne v1).far (p := ⟨g, 2, none⟩) hne v2
end

theorem lies1 (w : World) (x : Array Value) (t : TypeId) : Bk (w.alloc (.cells x t)) w.heap.size t x ∧ Below w.heap.size w (w.alloc (.cells x t)) := ⟨Bk.new w t x, (Below.refl w.heap.size w).alloc (Nat.le_refl _) _⟩
theorem lies3 (w : World) (x y z : Array Value) (t u v : TypeId) :
    Bk (((w.alloc (.cells x t)).alloc (.cells y u)).alloc (.cells z v)) w.heap.size t x ∧ Bk (((w.alloc (.cells x t)).alloc (.cells y u)).alloc (.cells z v)) (w.heap.size + 1) u y ∧
    Bk (((w.alloc (.cells x t)).alloc (.cells y u)).alloc (.cells z v)) (w.heap.size + 1 + 1) v z ∧ Below w.heap.size w (((w.alloc (.cells x t)).alloc (.cells y u)).alloc (.cells z v)) := by
  obtain ⟨h1, h2, h3⟩ := lies2 w x y t u
  refine ⟨h1.alloc _, h2.alloc _, ?_, h3.alloc h3.size _⟩
  have := Bk.new ((w.alloc (.cells x t)).alloc (.cells y u)) v z
  simpa using this

end Go.Proofs.YtlbmlhcphoiaeaaDoor

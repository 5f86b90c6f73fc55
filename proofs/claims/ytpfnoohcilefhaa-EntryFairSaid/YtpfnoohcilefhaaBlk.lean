/-
  A block of memory that is known whole: what is read of it, stored into it, and how it is kept. Over no program.
-/
import Derived.Test.YtpfnoohcilefhaaBase
import Derived.Deep.WholeRow
import Derived.Laws.Rows
import Derived.Laws.Tables
namespace Go.Proofs.Ytpfnoohcilefhaa
open Go.RowKit

/-- Block g is just these cells, none of them frozen. -/
def Bk (w : World) (g : Nat) (t : TypeId) (cs : Array Value) : Prop := w.heap[g]? = some (.cells cs t (0, 0))

section
variable {w w' : World} {g : Nat} {t : TypeId} {cs : Array Value} {P : Program}
theorem Bk.lt (h : Bk w g t cs) : g < w.heap.size := (Array.getElem?_eq_some_iff.1 h).1
theorem Bk.cell (h : Bk w g t cs) (i : Nat) : w.cell? ⟨g, i, none⟩ = cs[i]? := cell_of_row w g i cs t (0, 0) h
theorem Bk.frozen (h : Bk w g t cs) (i : Nat) : w.frozen? ⟨g, i, none⟩ = false := by simp [World.frozen?, show w.heap[g]? = _ from h]
theorem Bk.new (w : World) (t : TypeId) (cs : Array Value) : Bk (w.alloc (.cells cs t)) w.heap.size t cs := heap_alloc_last w _
theorem Bk.drew (h : Bk w g t cs) : Bk w.drew g t cs := h
theorem Bk.alloc (h : Bk w g t cs) (o : Obj) : Bk (w.alloc o) g t cs := (((Below.refl w.heap.size w).alloc (Nat.le_refl _) o).block g h.lt).trans h
theorem Bk.below {B : Nat} (h : Bk w g t cs) (hb : Below B w w') (hg : g < B) : Bk w' g t cs := (hb.block g hg).trans h
theorem Bk.set_ (h : Bk w g t cs) (i : Nat) (u : Value) : Bk (w.setCell ⟨g, i, none⟩ u) g t (cs.setIfInBounds i u) := by
  have h' : w.heap[g]? = _ := h
  simp [Bk, World.setCell, Array.getElem?_modify, h']
theorem Bk.far (h : Bk w g t cs) {p : Addr} (hp : g ≠ p.block) (u : Value) : Bk (w.setCell p u) g t cs := by
  have h' : w.heap[g]? = _ := h
  simp [Bk, World.setCell, Array.getElem?_modify, h', Ne.symm hp]

/-- The whole block, read. -/
theorem Bk.load (h : Bk w g t cs) {n : Nat} (hn : cs.size = n) : (loadCellsFrom ⟨g, 0, none⟩ 0 n #[]).run P w = .ok cs w := by
  subst hn
  have := run_loadCells_list (P := P) w ⟨g, 0, none⟩ cs.toList (fun j v hv => by
    have hadd : (⟨g, 0, none⟩ : Addr).add j = ⟨g, j, none⟩ := by unfold Addr.add; split <;> simp_all
    rw [hadd, h.cell]
    simpa using hv)
  simpa [loadCells] using this

/-- The whole block, stored into. -/
theorem Bk.store (h : Bk w g t cs) {c' : Array Value} (hs : cs.size = c'.size) (h1 : c'.all (·.oneCell') = true) : (storeCells ⟨g, 0, none⟩ c'.toList 0).run P w = .ok () (w.setRow g c') := by
  have := run_storeCells_from (P := P) g t c'.toList 0 cs w h (by simp; omega) (fun v hv => (Array.all_eq_true_iff_forall_mem.1 h1) v (by simpa using hv))
  simpa using this
theorem Bk.row (h : Bk w g t cs) (c' : Array Value) : Bk (w.setRow g c') g t c' := by
  have h' : w.heap[g]? = _ := h
  simp [Bk, World.setRow, Array.getElem?_modify, h']
theorem Bk.row_far (h : Bk w g t cs) {k : Nat} (hk : k ≠ g) (c' : Array Value) : Bk (w.setRow k c') g t cs := by
  have h' : w.heap[g]? = _ := h
  simp [Bk, World.setRow, Array.getElem?_modify, h', hk]
theorem below_row {B : Nat} {a : World} (h : Below B a w) {k : Nat} (hk : B ≤ k) (c' : Array Value) : Below B a (w.setRow k c') :=
  ⟨h.os, h.tape, h.output, by have := h.size; simpa [World.setRow] using this, fun j hj => by
    have := h.block j hj
    rw [← this]
    simp [World.setRow, Array.getElem?_modify, show ¬ k = j by omega]⟩

end

end Go.Proofs.Ytpfnoohcilefhaa

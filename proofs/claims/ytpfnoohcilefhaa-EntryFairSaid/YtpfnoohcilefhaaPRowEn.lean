/-
  Layer 19: how entries among the arguments are read.
-/
import Derived.Test.YtpfnoohcilefhaaOpenInt
import Derived.Test.YtpfnoohcilefhaaInstr
import Derived.Deep.Slices
import Derived.Deep.Fields
import Derived.Lib.SmallJoins
namespace Go.Proofs.Ytpfnoohcilefhaa
open Go.ChangeShapes Go.WideShapes Go.ChangeAt Go.RowKit Go.Joins Go.Deep

set_option maxRecDepth 100000 in
theorem Try.cellsEntry : Try.prog.cellsOf 45 = 3 := by kernel_rfl

section
variable {H : Type} {enc : TypeId × Value → H} {W : World}

set_option maxRecDepth 100000 in
/-- Three cells that read as an instruction hold three numbers. -/
theorem entry_cells {a : Addr} {fuel : Nat} {cs : List Value} {y : DataW H × List MemPlace} (h1 : W.cells? 0 a 3 = some cs) (h2 : DataW.trod enc Try.prog W 0 (fun _ => true) true fuel 45 cs = some y) :
    ∃ x : I3, FitI x ∧ W.cell? (a.add 0) = some (.int .i64 x.1) ∧ W.cell? (a.add 1) = some (.int .i64 x.2.1) ∧ W.cell? (a.add 2) = some (.int .i64 x.2.2) := by
  obtain ⟨_, hlen, hcell⟩ := World.cells?_some h1
  obtain ⟨xs, k, hk, hxy, _, hxl, hf⟩ := DataW.trod_struct Try.underlying45 h2
  match xs, hxl, cs, hlen with
  | [y0, y1, y2], _, [v0, v1, v2], _ =>
    have g0 := hf 0 _ rfl
    have g1 := hf 1 _ rfl
    have g2 := hf 2 _ rfl
    simp [Try.cellsInt] at g0 g1 g2
    obtain ⟨x0, e0, _, w0⟩ := DataW.trod_int Try.underlying3 g0
    obtain ⟨x1, e1, _, w1⟩ := DataW.trod_int Try.underlying3 g1
    obtain ⟨x2, e2, _, w2⟩ := DataW.trod_int Try.underlying3 g2
    simp at e0 e1 e2
    subst e0 e1 e2
    have q0 := hcell 0 (by omega)
    have q1 := hcell 1 (by omega)
    have q2 := hcell 2 (by omega)
    exact ⟨(x0, x1, x2), ⟨fit_of_wf w0, fit_of_wf w1, fit_of_wf w2⟩, by simpa using q0, by simpa using q1, by simpa using q2⟩

set_option maxRecDepth 100000 in
/-- A slice of instructions, as 'trod' reads it, reads as a list. -/
theorem entries_trod {A : Option Addr} {n c fuel : Nat} {x : DataW H × List MemPlace} (hf : DataW.trod enc Try.prog W 0 (fun _ => true) true fuel 31 [.slice A n c] = some x) (hlt : ∀ y ∈ x.2, y.block < W.heap.size) :
    ∃ p, Prog W A n c p := by
  rcases open_slice Try.underlying31 hf with ⟨hcs, hx⟩ | ⟨a, len', cap', m, n', D, Pl, hcs, _, hl, hm, hmm, hx, hel⟩
  · simp at hcs
    obtain ⟨rfl, rfl, rfl⟩ := hcs
    exact ⟨[], Prog.nil_ _ _ (by omega)⟩
  · simp at hcs
    obtain ⟨rfl, rfl, rfl⟩ := hcs
    subst hx
    simp only [if_true] at hmm
    subst hmm
    unfold maxLen at hm
    obtain ⟨X, hX⟩ := choose_lt (α := I3) (p := fun i x => FitI x ∧ W.cell? ((a.add (i * 3)).add 0) = some (.int .i64 x.1) ∧ W.cell? ((a.add (i * 3)).add 1) = some (.int .i64 x.2.1) ∧ W.cell? ((a.add (i * 3)).add 2) = some (.int .i64 x.2.2)) (fun i hi => by
      obtain ⟨cs', h1, h2⟩ := hel i hi
      rw [Try.cellsEntry] at h1
      exact entry_cells h1 h2)
    refine ⟨(List.range n).map X, by simp, by omega, fun x hx => ?_, fun hn => ?_⟩
    · obtain ⟨i, hi, rfl⟩ := List.mem_map.1 hx
      exact (hX i (by have := List.mem_range.1 hi; omega)).1
    · obtain ⟨b, off, spot⟩ := a
      have h00 := (hX 0 (by omega)).2.1
      rw [add_add] at h00
      have hspot : spot = none := by simpa [Addr.add] using World.cell?_spot h00
      subst hspot
      have hbW : b < W.heap.size := hlt (.cell b off) (List.mem_append_left _ (MemPlace.mem_row.2 ⟨0, by rw [Try.cellsEntry]; omega, by simp⟩))
      refine ⟨b, off, rfl, hbW, fun j hj => ?_⟩
      obtain ⟨_, k0, k1, k2⟩ := hX j (by omega)
      have e : ith ((List.range n).map X) j = X j := by simp [ith, List.getD, hj]
      rw [add_add, add_plain] at k0 k1 k2
      unfold jO jA jB
      rw [e]
      exact ⟨k0, k1, k2⟩

set_option maxRecDepth 100000 in
/-- A slice of instructions among the arguments reads as a list. -/
theorem open_ens {r : Reach} {base : Nat} {v : Value} {d : DataW H} {p : List MemPlace} (hval : Value.okWide Try.prog W r base 31 v)
    (h : DataW.Trod enc Try.prog W 0 (fun _ => true) true 31 v d p) (hlt : ∀ x ∈ p, x.block < W.heap.size) : ∃ A n c q, v = .slice A n c ∧ Prog W A n c q := by
  obtain ⟨a0, len, cap, rfl⟩ := okWide_slice Try.underlying31 hval
  obtain ⟨fuel, hf⟩ := h
  obtain ⟨q, hq⟩ := entries_trod (by simpa [Value.cells] using hf) hlt
  exact ⟨a0, len, cap, q, rfl, hq⟩
end

end Go.Proofs.Ytpfnoohcilefhaa

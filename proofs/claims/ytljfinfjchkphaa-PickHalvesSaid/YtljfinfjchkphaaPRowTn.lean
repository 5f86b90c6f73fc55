/-
  How tenants, and slices of them, are read among the arguments of layer 14's laws.
-/
import Derived.Test.YtljfinfjchkphaaRow
import Derived.Test.YtljfinfjchkphaaTen
import Derived.Deep.Slices
import Derived.Deep.Fields
import Derived.Lib.SmallJoins
namespace Go.Proofs.Ytljfinfjchkphaa
open Go.ChangeShapes Go.WideShapes Go.ChangeAt Go.RowKit Go.Joins Go.Deep

instance : Inhabited Tn := ⟨nilTn⟩
theorem Try.cellsTen : Try.prog.cellsOf 42 = 5 := by kernel_rfl
theorem Try.cellsI64t : Try.prog.cellsOf 2 = 1 := by kernel_rfl
theorem Try.cellsIntt : Try.prog.cellsOf 3 = 1 := by kernel_rfl

section
variable {H : Type} {enc : TypeId × Value → H} {W : World}

set_option maxRecDepth 100000 in
theorem ten_cells {a : Addr} {fuel : Nat} {cs : List Value} {y : DataW H × List MemPlace} (h1 : W.cells? 0 a 5 = some cs) (h2 : DataW.trod enc Try.prog W 0 (fun _ => true) true fuel 42 cs = some y) :
    ∃ x : Tn, FitTn x ∧ W.cell? (a.add 0) = some (.int .i64 x.wt) ∧ W.cell? (a.add 1) = some (.int .i64 x.qu) ∧ W.cell? (a.add 2) = some (.int .i64 x.li) ∧ W.cell? (a.add 3) = some (.int .i64 x.tg) ∧ W.cell? (a.add 4) = some (.int .i64 x.rn) := by
  obtain ⟨_, hlen, hcell⟩ := World.cells?_some h1
  obtain ⟨xs, k, hk, hxy, _, hxl, hf⟩ := DataW.trod_struct Try.underlying42 h2
  match xs, hxl, cs, hlen with
  | [y0, y1, y2, y3, y4], _, [v0, v1, v2, v3, v4], _ =>
    have g0 := hf 0 _ rfl
    have g1 := hf 1 _ rfl
    have g2 := hf 2 _ rfl
    have g3 := hf 3 _ rfl
    have g4 := hf 4 _ rfl
    simp [Try.cellsI64t, Try.cellsIntt] at g0 g1 g2 g3 g4
    obtain ⟨x0, e0, _, w0⟩ := DataW.trod_int Try.underlying3 g0
    obtain ⟨x1, e1, _, w1⟩ := DataW.trod_int Try.underlying3 g1
    obtain ⟨x2, e2, _, w2⟩ := DataW.trod_int Try.underlying3 g2
    obtain ⟨x3, e3, _, w3⟩ := DataW.trod_int Try.underlying2 g3
    obtain ⟨x4, e4, _, w4⟩ := DataW.trod_int Try.underlying2 g4
    simp at e0 e1 e2 e3 e4
    subst e0 e1 e2 e3 e4
    have q0 := hcell 0 (by omega)
    have q1 := hcell 1 (by omega)
    have q2 := hcell 2 (by omega)
    have q3 := hcell 3 (by omega)
    have q4 := hcell 4 (by omega)
    exact ⟨⟨x0, x1, x2, x3, x4⟩, ⟨fit_of_wf w0, fit_of_wf w1, fit_of_wf w2, fit_of_wf w3, fit_of_wf w4⟩, by simpa using q0, by simpa using q1, by simpa using q2, by simpa using q3, by simpa using q4⟩

set_option maxRecDepth 100000 in
theorem tns_trod {A : Option Addr} {n c fuel : Nat} {x : DataW H × List MemPlace} (hf : DataW.trod enc Try.prog W 0 (fun _ => true) true fuel 26 [.slice A n c] = some x) (hlt : ∀ y ∈ x.2, y.block < W.heap.size) :
    ∃ p, Tns W A n c p := by
  rcases open_slice Try.underlying26 hf with ⟨hcs, hx⟩ | ⟨a, len', cap', m, n', D, Pl, hcs, _, hl, hm, hmm, hx, hel⟩
  · simp at hcs
    obtain ⟨rfl, rfl, rfl⟩ := hcs
    exact ⟨[], rfl, by omega, by simp, fun h => by omega⟩
  · simp at hcs
    obtain ⟨rfl, rfl, rfl⟩ := hcs
    subst hx
    simp only [if_true] at hmm
    subst hmm
    unfold maxLen at hm
    obtain ⟨X, hX⟩ := choose_lt (α := Tn) (p := fun i x => FitTn x ∧ W.cell? ((a.add (i * 5)).add 0) = some (.int .i64 x.wt) ∧ W.cell? ((a.add (i * 5)).add 1) = some (.int .i64 x.qu) ∧ W.cell? ((a.add (i * 5)).add 2) = some (.int .i64 x.li) ∧ W.cell? ((a.add (i * 5)).add 3) = some (.int .i64 x.tg) ∧ W.cell? ((a.add (i * 5)).add 4) = some (.int .i64 x.rn)) (fun i hi => by
      obtain ⟨cs', h1, h2⟩ := hel i hi
      rw [Try.cellsTen] at h1
      exact ten_cells h1 h2)
    refine ⟨(List.range n).map X, by simp, by omega, fun x hx => ?_, fun hn => ?_⟩
    · obtain ⟨i, hi, rfl⟩ := List.mem_map.1 hx
      exact (hX i (by have := List.mem_range.1 hi; omega)).1
    · obtain ⟨b, off, spot⟩ := a
      have h00 := (hX 0 (by omega)).2.1
      rw [add_add] at h00
      have hspot : spot = none := by simpa [Addr.add] using World.cell?_spot h00
      subst hspot
      have hbW : b < W.heap.size := hlt (.cell b off) (List.mem_append_left _ (MemPlace.mem_row.2 ⟨0, by rw [Try.cellsTen]; omega, by simp⟩))
      refine ⟨b, off, rfl, hbW, fun j hj => ?_⟩
      obtain ⟨_, k0, k1, k2, k3, k4⟩ := hX j (by omega)
      have e : tth ((List.range n).map X) j = X j := by simp [tth, List.getD, hj]
      rw [add_add, add_plain] at k0 k1 k2 k3 k4
      rw [e]
      exact ⟨k0, k1, k2, k3, k4⟩

set_option maxRecDepth 100000 in
theorem open_tns {r : Reach} {base : Nat} {v : Value} {d : DataW H} {p : List MemPlace} (hval : Value.okWide Try.prog W r base 26 v)
    (h : DataW.Trod enc Try.prog W 0 (fun _ => true) true 26 v d p) (hlt : ∀ x ∈ p, x.block < W.heap.size) : ∃ A n c l, v = .slice A n c ∧ Tns W A n c l := by
  obtain ⟨a0, len, cap, rfl⟩ := okWide_slice Try.underlying26 hval
  obtain ⟨fuel, hf⟩ := h
  obtain ⟨q, hq⟩ := tns_trod (by simpa [Value.cells] using hf) hlt
  exact ⟨a0, len, cap, q, rfl, hq⟩
end

end Go.Proofs.Ytljfinfjchkphaa

/-
  How slices of joins, and slices of what is done with them are read among the arguments of layer 11's laws.
-/
import Derived.Test.YtkffmohgnbnhkaaRow
import Derived.Test.YtkffmohgnbnhkaaTim
import Derived.Deep.Slices
import Derived.Deep.Fields
import Derived.Lib.SmallJoins
namespace Go.Proofs.Ytkffmohgnbnhkaa
open Go.ChangeShapes Go.WideShapes Go.ChangeAt Go.RowKit Go.Joins Go.Deep

theorem Try.cellsTim : Try.prog.cellsOf 37 = 2 := by kernel_rfl
theorem Try.cellsOp8 : Try.prog.cellsOf 41 = 3 := by kernel_rfl
theorem Try.cellsI64 : Try.prog.cellsOf 2 = 1 := by kernel_rfl
theorem Try.cellsInt : Try.prog.cellsOf 3 = 1 := by kernel_rfl

/-- What is done: a kind, an id, a time. -/
abbrev O3 := Int × Int × Int
def FitO (x : O3) : Prop := Fit x.1 ∧ Fit x.2.1 ∧ Fit x.2.2
def oth (p : List O3) (j : Nat) : O3 := p.getD j (0, 0, 0)
/-- The slice whose cells begin at A, of n of those, reads as the list p. -/
def Ops8 (w : World) (A : Option Addr) (n c : Nat) (p : List O3) : Prop :=
  p.length = n ∧ (n ≤ c ∧ c ≤ 9223372036854775807) ∧ (∀ x ∈ p, FitO x) ∧
    (0 < n → ∃ b o, A = some ⟨b, o, none⟩ ∧ b < w.heap.size ∧ ∀ j, j < n →
      w.cell? ⟨b, o + j * 3, none⟩ = some (.int .i64 (oth p j).1) ∧ w.cell? ⟨b, o + j * 3 + 1, none⟩ = some (.int .i64 (oth p j).2.1) ∧ w.cell? ⟨b, o + j * 3 + 2, none⟩ = some (.int .i64 (oth p j).2.2))
theorem Ops8.below {w w' : World} {A : Option Addr} {n c : Nat} {p : List O3} (h : Ops8 w A n c p) (hb : Below w.heap.size w w') : Ops8 w' A n c p :=
  ⟨h.1, h.2.1, h.2.2.1, fun hn => by
    obtain ⟨b, o, e, hlt, hc⟩ := h.2.2.2 hn
    have hs := hb.size
    refine ⟨b, o, e, by omega, fun j hj => ?_⟩
    obtain ⟨h0, h1, h2⟩ := hc j hj
    exact ⟨(hb.cell (p := ⟨b, _, none⟩) hlt).trans h0, (hb.cell (p := ⟨b, _, none⟩) hlt).trans h1, (hb.cell (p := ⟨b, _, none⟩) hlt).trans h2⟩⟩
theorem oth_get {p : List O3} {j : Nat} (h : j < p.length) : oth p j = p[j] := by simp [oth, List.getD, h]

section
variable {H : Type} {enc : TypeId × Value → H} {W : World}

set_option maxRecDepth 100000 in
theorem tim_cells {a : Addr} {fuel : Nat} {cs : List Value} {y : DataW H × List MemPlace} (h1 : W.cells? 0 a 2 = some cs) (h2 : DataW.trod enc Try.prog W 0 (fun _ => true) true fuel 37 cs = some y) :
    ∃ x : Tm, FitI x ∧ W.cell? (a.add 0) = some (.int .i64 x.1) ∧ W.cell? (a.add 1) = some (.int .i64 x.2) := by
  obtain ⟨_, hlen, hcell⟩ := World.cells?_some h1
  obtain ⟨xs, k, hk, hxy, _, hxl, hf⟩ := DataW.trod_struct Try.underlying37 h2
  match xs, hxl, cs, hlen with
  | [y0, y1], _, [v0, v1], _ =>
    have g0 := hf 0 _ rfl
    have g1 := hf 1 _ rfl
    simp [Try.cellsI64] at g0 g1
    obtain ⟨x0, e0, _, w0⟩ := DataW.trod_int Try.underlying2 g0
    obtain ⟨x1, e1, _, w1⟩ := DataW.trod_int Try.underlying2 g1
    simp at e0 e1
    subst e0 e1
    have q0 := hcell 0 (by omega)
    have q1 := hcell 1 (by omega)
    exact ⟨(x0, x1), ⟨fit_of_wf w0, fit_of_wf w1⟩, by simpa using q0, by simpa using q1⟩
set_option maxRecDepth 100000 in
theorem op8_cells {a : Addr} {fuel : Nat} {cs : List Value} {y : DataW H × List MemPlace} (h1 : W.cells? 0 a 3 = some cs) (h2 : DataW.trod enc Try.prog W 0 (fun _ => true) true fuel 41 cs = some y) :
    ∃ x : O3, FitO x ∧ W.cell? (a.add 0) = some (.int .i64 x.1) ∧ W.cell? (a.add 1) = some (.int .i64 x.2.1) ∧ W.cell? (a.add 2) = some (.int .i64 x.2.2) := by
  obtain ⟨_, hlen, hcell⟩ := World.cells?_some h1
  obtain ⟨xs, k, hk, hxy, _, hxl, hf⟩ := DataW.trod_struct Try.underlying41 h2
  match xs, hxl, cs, hlen with
  | [y0, y1, y2], _, [v0, v1, v2], _ =>
    have g0 := hf 0 _ rfl
    have g1 := hf 1 _ rfl
    have g2 := hf 2 _ rfl
    simp [Try.cellsI64, Try.cellsInt] at g0 g1 g2
    obtain ⟨x0, e0, _, w0⟩ := DataW.trod_int Try.underlying3 g0
    obtain ⟨x1, e1, _, w1⟩ := DataW.trod_int Try.underlying2 g1
    obtain ⟨x2, e2, _, w2⟩ := DataW.trod_int Try.underlying2 g2
    simp at e0 e1 e2
    subst e0 e1 e2
    have q0 := hcell 0 (by omega)
    have q1 := hcell 1 (by omega)
    have q2 := hcell 2 (by omega)
    exact ⟨(x0, x1, x2), ⟨fit_of_wf w0, fit_of_wf w1, fit_of_wf w2⟩, by simpa using q0, by simpa using q1, by simpa using q2⟩

set_option maxRecDepth 100000 in
theorem tms_trod {A : Option Addr} {n c fuel : Nat} {x : DataW H × List MemPlace} (hf : DataW.trod enc Try.prog W 0 (fun _ => true) true fuel 22 [.slice A n c] = some x) (hlt : ∀ y ∈ x.2, y.block < W.heap.size) :
    ∃ p, Tms W A n c p := by
  rcases open_slice Try.underlying22 hf with ⟨hcs, hx⟩ | ⟨a, len', cap', m, n', D, Pl, hcs, _, hl, hm, hmm, hx, hel⟩
  · simp at hcs
    obtain ⟨rfl, rfl, rfl⟩ := hcs
    exact ⟨[], Tms.nil_ _ _ (by omega)⟩
  · simp at hcs
    obtain ⟨rfl, rfl, rfl⟩ := hcs
    subst hx
    simp only [if_true] at hmm
    subst hmm
    unfold maxLen at hm
    obtain ⟨X, hX⟩ := choose_lt (α := Tm) (p := fun i x => FitI x ∧ W.cell? ((a.add (i * 2)).add 0) = some (.int .i64 x.1) ∧ W.cell? ((a.add (i * 2)).add 1) = some (.int .i64 x.2)) (fun i hi => by
      obtain ⟨cs', h1, h2⟩ := hel i hi
      rw [Try.cellsTim] at h1
      exact tim_cells h1 h2)
    refine ⟨(List.range n).map X, by simp, by omega, fun x hx => ?_, fun hn => ?_⟩
    · obtain ⟨i, hi, rfl⟩ := List.mem_map.1 hx
      exact (hX i (by have := List.mem_range.1 hi; omega)).1
    · obtain ⟨b, off, spot⟩ := a
      have h00 := (hX 0 (by omega)).2.1
      rw [add_add] at h00
      have hspot : spot = none := by simpa [Addr.add] using World.cell?_spot h00
      subst hspot
      have hbW : b < W.heap.size := hlt (.cell b off) (List.mem_append_left _ (MemPlace.mem_row.2 ⟨0, by rw [Try.cellsTim]; omega, by simp⟩))
      refine ⟨b, off, rfl, hbW, fun j hj => ?_⟩
      obtain ⟨_, k0, k1⟩ := hX j (by omega)
      have e : ith ((List.range n).map X) j = X j := by simp [ith, List.getD, hj]
      rw [add_add, add_plain] at k0 k1
      unfold jO jA
      rw [e]
      exact ⟨k0, k1⟩
set_option maxRecDepth 100000 in
theorem ops8_trod {A : Option Addr} {n c fuel : Nat} {x : DataW H × List MemPlace} (hf : DataW.trod enc Try.prog W 0 (fun _ => true) true fuel 39 [.slice A n c] = some x) (hlt : ∀ y ∈ x.2, y.block < W.heap.size) :
    ∃ p, Ops8 W A n c p := by
  rcases open_slice Try.underlying39 hf with ⟨hcs, hx⟩ | ⟨a, len', cap', m, n', D, Pl, hcs, _, hl, hm, hmm, hx, hel⟩
  · simp at hcs
    obtain ⟨rfl, rfl, rfl⟩ := hcs
    exact ⟨[], rfl, by omega, by simp, fun h => by omega⟩
  · simp at hcs
    obtain ⟨rfl, rfl, rfl⟩ := hcs
    subst hx
    simp only [if_true] at hmm
    subst hmm
    unfold maxLen at hm
    obtain ⟨X, hX⟩ := choose_lt (α := O3) (p := fun i x => FitO x ∧ W.cell? ((a.add (i * 3)).add 0) = some (.int .i64 x.1) ∧ W.cell? ((a.add (i * 3)).add 1) = some (.int .i64 x.2.1) ∧ W.cell? ((a.add (i * 3)).add 2) = some (.int .i64 x.2.2)) (fun i hi => by
      obtain ⟨cs', h1, h2⟩ := hel i hi
      rw [Try.cellsOp8] at h1
      exact op8_cells h1 h2)
    refine ⟨(List.range n).map X, by simp, by omega, fun x hx => ?_, fun hn => ?_⟩
    · obtain ⟨i, hi, rfl⟩ := List.mem_map.1 hx
      exact (hX i (by have := List.mem_range.1 hi; omega)).1
    · obtain ⟨b, off, spot⟩ := a
      have h00 := (hX 0 (by omega)).2.1
      rw [add_add] at h00
      have hspot : spot = none := by simpa [Addr.add] using World.cell?_spot h00
      subst hspot
      have hbW : b < W.heap.size := hlt (.cell b off) (List.mem_append_left _ (MemPlace.mem_row.2 ⟨0, by rw [Try.cellsOp8]; omega, by simp⟩))
      refine ⟨b, off, rfl, hbW, fun j hj => ?_⟩
      obtain ⟨_, k0, k1, k2⟩ := hX j (by omega)
      have e : oth ((List.range n).map X) j = X j := by simp [oth, List.getD, hj]
      rw [add_add, add_plain] at k0 k1 k2
      rw [e]
      exact ⟨k0, k1, k2⟩

set_option maxRecDepth 100000 in
theorem open_tms {r : Reach} {base : Nat} {v : Value} {d : DataW H} {p : List MemPlace} (hval : Value.okWide Try.prog W r base 22 v)
    (h : DataW.Trod enc Try.prog W 0 (fun _ => true) true 22 v d p) (hlt : ∀ x ∈ p, x.block < W.heap.size) : ∃ A n c l, v = .slice A n c ∧ Tms W A n c l := by
  obtain ⟨a0, len, cap, rfl⟩ := okWide_slice Try.underlying22 hval
  obtain ⟨fuel, hf⟩ := h
  obtain ⟨q, hq⟩ := tms_trod (by simpa [Value.cells] using hf) hlt
  exact ⟨a0, len, cap, q, rfl, hq⟩
set_option maxRecDepth 100000 in
theorem open_ops8 {r : Reach} {base : Nat} {v : Value} {d : DataW H} {p : List MemPlace} (hval : Value.okWide Try.prog W r base 39 v)
    (h : DataW.Trod enc Try.prog W 0 (fun _ => true) true 39 v d p) (hlt : ∀ x ∈ p, x.block < W.heap.size) : ∃ A n c l, v = .slice A n c ∧ Ops8 W A n c l := by
  obtain ⟨a0, len, cap, rfl⟩ := okWide_slice Try.underlying39 hval
  obtain ⟨fuel, hf⟩ := h
  obtain ⟨q, hq⟩ := ops8_trod (by simpa [Value.cells] using hf) hlt
  exact ⟨a0, len, cap, q, rfl, hq⟩
end

end Go.Proofs.Ytkffmohgnbnhkaa

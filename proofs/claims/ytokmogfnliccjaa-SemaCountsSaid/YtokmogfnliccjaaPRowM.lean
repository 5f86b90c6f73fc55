/-
  How semaphores, slices of numbers, and slices of what is done with a semaphore are read among the arguments of layer 10's laws.
-/
import Derived.Test.YtokmogfnliccjaaRow
import Derived.Test.YtokmogfnliccjaaSb
import Derived.Deep.Slices
import Derived.Deep.Fields
import Derived.Deep.Grids
import Derived.Lib.SmallJoins
namespace Go.Proofs.Ytokmogfnliccjaa
open Go.ChangeShapes Go.WideShapes Go.ChangeAt Go.RowKit Go.Joins Go.Deep

theorem Try.cellsI64 : Try.prog.cellsOf 2 = 1 := by kernel_rfl
theorem Try.cellsInt : Try.prog.cellsOf 3 = 1 := by kernel_rfl
theorem Try.cellsSem : Try.prog.cellsOf 24 = 2 := by kernel_rfl
theorem Try.cellsOp10 : Try.prog.cellsOf 40 = 2 := by kernel_rfl

/-- What is done: a kind, an id. -/
abbrev O2 := Int × Int
def FitO (x : O2) : Prop := Fit x.1 ∧ Fit x.2
def oth (p : List O2) (j : Nat) : O2 := p.getD j (0, 0)
theorem oth_get {p : List O2} {j : Nat} (h : j < p.length) : oth p j = p[j] := by simp [oth, List.getD, h]
/-- The slice whose cells begin at A, of n of those, reads as the list p. -/
def Ops10 (w : World) (A : Option Addr) (n c : Nat) (p : List O2) : Prop :=
  p.length = n ∧ (n ≤ c ∧ c ≤ 9223372036854775807) ∧ (∀ x ∈ p, FitO x) ∧
    (0 < n → ∃ b o, A = some ⟨b, o, none⟩ ∧ b < w.heap.size ∧ ∀ j, j < n →
      w.cell? ⟨b, o + j * 2, none⟩ = some (.int .i64 (oth p j).1) ∧ w.cell? ⟨b, o + j * 2 + 1, none⟩ = some (.int .i64 (oth p j).2))
theorem Ops10.below {w w' : World} {A : Option Addr} {n c : Nat} {p : List O2} (h : Ops10 w A n c p) (hb : Below w.heap.size w w') : Ops10 w' A n c p :=
  ⟨h.1, h.2.1, h.2.2.1, fun hn => by
    obtain ⟨b, o, e, hlt, hc⟩ := h.2.2.2 hn
    have hs := hb.size
    refine ⟨b, o, e, by omega, fun j hj => ?_⟩
    obtain ⟨h0, h1⟩ := hc j hj
    exact ⟨(hb.cell (p := ⟨b, _, none⟩) hlt).trans h0, (hb.cell (p := ⟨b, _, none⟩) hlt).trans h1⟩⟩
theorem Ops10.at_ {w : World} {A : Option Addr} {n c : Nat} {p : List O2} (h : Ops10 w A n c p) {k : Nat} (hk : k < n) : ∃ b o, A = some ⟨b, o, none⟩ ∧ b < w.heap.size ∧ w.cell? ⟨b, o + k * 2, none⟩ = some (.int .i64 (oth p k).1) ∧ w.cell? ⟨b, o + k * 2 + 1, none⟩ = some (.int .i64 (oth p k).2) ∧ FitO (oth p k) := by
  obtain ⟨b, o, e, hb, hc⟩ := h.2.2.2 (by omega)
  have hl := h.1
  exact ⟨b, o, e, hb, (hc k hk).1, (hc k hk).2, by rw [oth_get (by omega)]; exact h.2.2.1 _ (List.getElem_mem _)⟩

section
variable {H : Type} {enc : TypeId × Value → H} {W : World}

theorem ints_trod {t : TypeId} (ht : Try.prog.underlying t = some (.slice 2)) {A : Option Addr} {n c fuel : Nat} {x : DataW H × List MemPlace}
    (hf : DataW.trod enc Try.prog W 0 (fun _ => true) true fuel t [.slice A n c] = some x) (hlt : ∀ y ∈ x.2, y.block < W.heap.size) :
    (n ≤ c ∧ c ≤ 9223372036854775807) ∧ ∃ zs, n ≤ 400 → Ints W A n zs := by
  rcases open_ints ht Try.underlying2 Try.cellsI64 hf with ⟨hcs, hx⟩ | ⟨a, len', cap', zs, hcs, _, hl, hm, hz, hx, hcell, hwz⟩
  · simp at hcs
    obtain ⟨rfl, rfl, rfl⟩ := hcs
    exact ⟨by omega, [], fun _ => Ints.nil_ _ _⟩
  · simp at hcs
    obtain ⟨rfl, rfl, rfl⟩ := hcs
    subst hx
    simp only [if_true] at hz
    unfold maxLen at hm
    refine ⟨by omega, zs.take n, fun hn4 => ⟨by rw [List.length_take]; omega, by omega, fun z hz => fit_of_wf (hwz z (List.mem_of_mem_take hz)), fun hn => ?_⟩⟩
    obtain ⟨b, off, spot⟩ := a
    have hspot : spot = none := by simpa [Addr.add] using World.cell?_spot (hcell 0 (by omega))
    subst hspot
    have hbW : b < W.heap.size := hlt (.cell b off) (MemPlace.mem_row.2 ⟨0, by omega, by simp⟩)
    refine ⟨b, off, rfl, hbW, fun j hj => ?_⟩
    have := hcell j (by omega)
    rw [add_plain] at this
    rw [this]
    simp [nth, List.getD, hj]

set_option maxRecDepth 100000 in
theorem open_i64s {r : Reach} {base : Nat} {v : Value} {d : DataW H} {p : List MemPlace} (hval : Value.okWide Try.prog W r base 22 v)
    (h : DataW.Trod enc Try.prog W 0 (fun _ => true) true 22 v d p) (hlt : ∀ x ∈ p, x.block < W.heap.size) :
    ∃ A n c zs, v = .slice A n c ∧ (n ≤ c ∧ c ≤ 9223372036854775807) ∧ (n ≤ 400 → Ints W A n zs) := by
  obtain ⟨a0, len, cap, rfl⟩ := okWide_slice Try.underlying22 hval
  obtain ⟨fuel, hf⟩ := h
  obtain ⟨h1, zs, h2⟩ := ints_trod Try.underlying22 (by simpa [Value.cells] using hf) hlt
  exact ⟨a0, len, cap, zs, rfl, h1, h2⟩
set_option maxRecDepth 100000 in
theorem op10_cells {a : Addr} {fuel : Nat} {cs : List Value} {y : DataW H × List MemPlace} (h1 : W.cells? 0 a 2 = some cs) (h2 : DataW.trod enc Try.prog W 0 (fun _ => true) true fuel 40 cs = some y) :
    ∃ x : O2, FitO x ∧ W.cell? (a.add 0) = some (.int .i64 x.1) ∧ W.cell? (a.add 1) = some (.int .i64 x.2) := by
  obtain ⟨_, hlen, hcell⟩ := World.cells?_some h1
  obtain ⟨xs, k, hk, hxy, _, hxl, hf⟩ := DataW.trod_struct Try.underlying40 h2
  match xs, hxl, cs, hlen with
  | [y0, y1], _, [v0, v1], _ =>
    have g0 := hf 0 _ rfl
    have g1 := hf 1 _ rfl
    simp [Try.cellsI64, Try.cellsInt] at g0 g1
    obtain ⟨x0, e0, _, w0⟩ := DataW.trod_int Try.underlying3 g0
    obtain ⟨x1, e1, _, w1⟩ := DataW.trod_int Try.underlying2 g1
    simp at e0 e1
    subst e0 e1
    have q0 := hcell 0 (by omega)
    have q1 := hcell 1 (by omega)
    exact ⟨(x0, x1), ⟨fit_of_wf w0, fit_of_wf w1⟩, by simpa using q0, by simpa using q1⟩

set_option maxRecDepth 100000 in
theorem ops10_trod {A : Option Addr} {n c fuel : Nat} {x : DataW H × List MemPlace} (hf : DataW.trod enc Try.prog W 0 (fun _ => true) true fuel 38 [.slice A n c] = some x) (hlt : ∀ y ∈ x.2, y.block < W.heap.size) :
    ∃ p, Ops10 W A n c p := by
  rcases open_slice Try.underlying38 hf with ⟨hcs, hx⟩ | ⟨a, len', cap', m, n', D, Pl, hcs, _, hl, hm, hmm, hx, hel⟩
  · simp at hcs
    obtain ⟨rfl, rfl, rfl⟩ := hcs
    exact ⟨[], rfl, by omega, by simp, fun h => by omega⟩
  · simp at hcs
    obtain ⟨rfl, rfl, rfl⟩ := hcs
    subst hx
    simp only [if_true] at hmm
    subst hmm
    unfold maxLen at hm
    obtain ⟨X, hX⟩ := choose_lt (α := O2) (p := fun i x => FitO x ∧ W.cell? ((a.add (i * 2)).add 0) = some (.int .i64 x.1) ∧ W.cell? ((a.add (i * 2)).add 1) = some (.int .i64 x.2)) (fun i hi => by
      obtain ⟨cs', h1, h2⟩ := hel i hi
      rw [Try.cellsOp10] at h1
      exact op10_cells h1 h2)
    refine ⟨(List.range n).map X, by simp, by omega, fun x hx => ?_, fun hn => ?_⟩
    · obtain ⟨i, hi, rfl⟩ := List.mem_map.1 hx
      exact (hX i (by have := List.mem_range.1 hi; omega)).1
    · obtain ⟨b, off, spot⟩ := a
      have h00 := (hX 0 (by omega)).2.1
      rw [add_add] at h00
      have hspot : spot = none := by simpa [Addr.add] using World.cell?_spot h00
      subst hspot
      have hbW : b < W.heap.size := hlt (.cell b off) (List.mem_append_left _ (MemPlace.mem_row.2 ⟨0, by rw [Try.cellsOp10]; omega, by simp⟩))
      refine ⟨b, off, rfl, hbW, fun j hj => ?_⟩
      obtain ⟨_, k0, k1⟩ := hX j (by omega)
      have e : oth ((List.range n).map X) j = X j := by simp [oth, List.getD, hj]
      rw [add_add, add_plain] at k0 k1
      rw [e]
      exact ⟨k0, k1⟩

set_option maxRecDepth 100000 in
theorem open_ops10 {r : Reach} {base : Nat} {v : Value} {d : DataW H} {p : List MemPlace} (hval : Value.okWide Try.prog W r base 38 v)
    (h : DataW.Trod enc Try.prog W 0 (fun _ => true) true 38 v d p) (hlt : ∀ x ∈ p, x.block < W.heap.size) : ∃ A n c l, v = .slice A n c ∧ Ops10 W A n c l := by
  obtain ⟨a0, len, cap, rfl⟩ := okWide_slice Try.underlying38 hval
  obtain ⟨fuel, hf⟩ := h
  obtain ⟨q, hq⟩ := ops10_trod (by simpa [Value.cells] using hf) hlt
  exact ⟨a0, len, cap, q, rfl, hq⟩
set_option maxRecDepth 100000 in
theorem open_sem {r : Reach} {base : Nat} {v : Value} {d : DataW H} {p : List MemPlace} (hval : Value.okWide Try.prog W r base 24 v)
    (h : DataW.Trod enc Try.prog W 0 (fun _ => true) true 24 v d p) (hlt : ∀ x ∈ p, x.block < W.heap.size) :
    ∃ z A n c l, v = .agg #[.int .i64 z, .slice A n c] ∧ Fit z ∧ (n ≤ c ∧ c ≤ 9223372036854775807) ∧ (n ≤ 400 → SemW W z A n c l) := by
  obtain ⟨c0, c1, y0, y1, m, rfl, rfl, rfl, h0, h1⟩ := open_agg2 Try.underlying24 (by kernel_rfl) Try.cellsSem hval h
  obtain ⟨z, e0, _, w0⟩ := DataW.trod_int Try.underlying3 h0
  simp at e0
  subst e0
  have hs : ∃ A n c, c1 = .slice A n c := by
    rcases open_ints Try.underlying22 Try.underlying2 Try.cellsI64 h1 with ⟨hcs, _⟩ | ⟨a, len', cap', zs, hcs, _⟩
    · simp at hcs; exact ⟨_, _, _, hcs⟩
    · simp at hcs; exact ⟨_, _, _, hcs⟩
  obtain ⟨A, n, c, rfl⟩ := hs
  obtain ⟨g1, gs, g2⟩ := ints_trod Try.underlying22 h1 (fun y hy => hlt y (by simp [hy]))
  exact ⟨z, A, n, c, gs, rfl, fit_of_wf w0, g1, fun a => ⟨fit_of_wf w0, g2 a, g1⟩⟩
end

end Go.Proofs.Ytokmogfnliccjaa

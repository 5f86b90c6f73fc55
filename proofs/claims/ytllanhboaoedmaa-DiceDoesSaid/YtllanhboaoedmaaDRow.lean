/-
  How the arguments of layer 3's laws are read: slices of octets and of numbers, and dice.
-/
import Derived.Test.YtllanhboaoedmaaRow
import Derived.Test.YtllanhboaoedmaaOct
import Derived.Lib.SmallJoins
namespace Go.Proofs.Ytllanhboaoedmaa
open Go.ChangeShapes Go.WideShapes Go.ChangeAt Go.RowKit Go.Joins

theorem Try.cellsInt : Try.prog.cellsOf 3 = 1 := by kernel_rfl
theorem Try.bytesInt : Try.prog.bytesOf 3 = 8 := by kernel_rfl
theorem Try.cellsOct : Try.prog.cellsOf 5 = 1 := by kernel_rfl
theorem Try.bytesOct : Try.prog.bytesOf 5 = 1 := by kernel_rfl
theorem Try.cellsDice : Try.prog.cellsOf 24 = 2 := by kernel_rfl

section
variable {H : Type} {enc : TypeId × Value → H}

/-- A slice of int among the arguments reads as a list. -/
theorem open_nums {t : TypeId} (ht : Try.prog.underlying t = some (.slice 3)) {W : World} {r : Reach} {base : Nat} {v : Value} {d : DataW H} {p : List MemPlace} (hval : Value.okWide Try.prog W r base t v)
    (h : DataW.Trod enc Try.prog W 0 (fun _ => true) true t v d p) (hlt : ∀ x ∈ p, x.block < W.heap.size)
    {ts : List TypeId} {ds : List (DataW H)} (hsz : (DataW.weightsEach Try.prog ts ds).all (· ≤ reachBytes) = true) {j : Nat} (hj : ts[j]? = some t) (hd : ds[j]? = some d) :
    ∃ A n c zs, v = .slice A n c ∧ Ints W A n zs := by
  obtain ⟨a0, len, cap, rfl⟩ := okWide_slice ht hval
  obtain ⟨fuel, hf⟩ := h
  refine ⟨a0, len, cap, ?_⟩
  rcases open_ints ht Try.underlying3 Try.cellsInt hf with ⟨hcs, hx⟩ | ⟨a, len', cap', zs, hcs, _, hl, hm, hz, hx, hcell, hwz⟩
  · simp [Value.cells] at hcs
    obtain ⟨rfl, rfl, rfl⟩ := hcs
    exact ⟨[], rfl, Ints.nil_ _ _⟩
  · simp [Value.cells] at hcs
    obtain ⟨rfl, rfl, rfl⟩ := hcs
    simp only [Prod.mk.injEq] at hx
    obtain ⟨rfl, rfl⟩ := hx
    simp only [if_true] at hz
    have hreach : len * 8 ≤ 140737488351232 := by
      have := sized_slice hsz hj hd ht
      rw [Try.bytesInt] at this
      simp only [lits, List.length_map, List.length_take, List.length_drop, reachBytes] at this
      omega
    refine ⟨zs.take len, rfl, by rw [List.length_take]; omega, hreach, fun z hz => fit_of_wf (hwz z (List.mem_of_mem_take hz)), fun hn => ?_⟩
    obtain ⟨b, off, spot⟩ := a
    have hspot : spot = none := by simpa [Addr.add] using World.cell?_spot (hcell 0 (by omega))
    subst hspot
    have hbW : b < W.heap.size := hlt (.cell b off) (MemPlace.mem_row.2 ⟨0, by omega, by simp⟩)
    refine ⟨b, off, rfl, hbW, fun j hj => ?_⟩
    have := hcell j (by omega)
    rw [add_plain] at this
    rw [this]
    simp [nth, List.getD, hj]

/-- A slice of octets, as 'trod' reads it, reads as a list. -/
theorem octs_trod {t : TypeId} (ht : Try.prog.underlying t = some (.slice 5)) {W : World} {A : Option Addr} {n c fuel : Nat} {x : DataW H × List MemPlace}
    (hf : DataW.trod enc Try.prog W 0 (fun _ => true) true fuel t [.slice A n c] = some x) (hlt : ∀ y ∈ x.2, y.block < W.heap.size) :
    n ≤ 9223372036854775807 ∧ ∃ zs, n ≤ 140737488351232 → Octs W A n zs := by
  rcases open_ints ht Try.underlying5 Try.cellsOct hf with ⟨hcs, hx⟩ | ⟨a, len', cap', zs, hcs, _, hl, hm, hz, hx, hcell, hwz⟩
  · simp at hcs
    obtain ⟨rfl, rfl, rfl⟩ := hcs
    exact ⟨by omega, [], fun _ => Octs.nil_ _ _⟩
  · simp at hcs
    obtain ⟨rfl, rfl, rfl⟩ := hcs
    subst hx
    simp only [if_true] at hz
    unfold maxLen at hm
    refine ⟨by omega, zs.take n, fun hn47 => ⟨by rw [List.length_take]; omega, hn47, fun z hz => oct_of_wf (hwz z (List.mem_of_mem_take hz)), fun hn => ?_⟩⟩
    obtain ⟨b, off, spot⟩ := a
    have hspot : spot = none := by simpa [Addr.add] using World.cell?_spot (hcell 0 (by omega))
    subst hspot
    have hbW : b < W.heap.size := hlt (.cell b off) (MemPlace.mem_row.2 ⟨0, by omega, by simp⟩)
    refine ⟨b, off, rfl, hbW, fun j hj => ?_⟩
    have := hcell j (by omega)
    rw [add_plain] at this
    rw [this]
    simp [nth, List.getD, hj]

/-- A slice of octets among the arguments reads as a list. -/
theorem open_octs {t : TypeId} (ht : Try.prog.underlying t = some (.slice 5)) {W : World} {r : Reach} {base : Nat} {v : Value} {d : DataW H} {p : List MemPlace} (hval : Value.okWide Try.prog W r base t v)
    (h : DataW.Trod enc Try.prog W 0 (fun _ => true) true t v d p) (hlt : ∀ x ∈ p, x.block < W.heap.size) :
    ∃ A n c zs, v = .slice A n c ∧ n ≤ 9223372036854775807 ∧ (n ≤ 140737488351232 → Octs W A n zs) := by
  obtain ⟨a0, len, cap, rfl⟩ := okWide_slice ht hval
  obtain ⟨fuel, hf⟩ := h
  obtain ⟨h1, zs, h2⟩ := octs_trod ht (by simpa [Value.cells] using hf) hlt
  exact ⟨a0, len, cap, zs, rfl, h1, h2⟩

/-- Dice among the arguments. -/
theorem open_dice {W : World} {r : Reach} {base : Nat} {v : Value} {d : DataW H} {p : List MemPlace} (hval : Value.okWide Try.prog W r base 24 v)
    (h : DataW.Trod enc Try.prog W 0 (fun _ => true) true 24 v d p) (hlt : ∀ x ∈ p, x.block < W.heap.size) :
    ∃ A n c q zs, v = .agg #[.slice A n c, .int .i64 q] ∧ n ≤ 9223372036854775807 ∧ (n ≤ 140737488351232 → Octs W A n zs) ∧ Fit q := by
  obtain ⟨c0, c1, y0, y1, m, rfl, rfl, rfl, h0, h1⟩ := open_agg2 Try.underlying24 (by kernel_rfl) Try.cellsDice hval h
  obtain ⟨x1, e1, _, w1⟩ := DataW.trod_int Try.underlying3 h1
  simp at e1
  subst e1
  have hs : ∃ A n c, c0 = .slice A n c := by
    rcases open_ints Try.underlying22 Try.underlying5 Try.cellsOct h0 with ⟨hcs, _⟩ | ⟨a, len', cap', zs, hcs, _⟩
    · simp at hcs; exact ⟨_, _, _, hcs⟩
    · simp at hcs; exact ⟨_, _, _, hcs⟩
  obtain ⟨A, n, c, rfl⟩ := hs
  obtain ⟨g1, zs, g2⟩ := octs_trod Try.underlying22 h0 (fun y hy => hlt y (by simp [hy]))
  exact ⟨A, n, c, x1, zs, rfl, g1, g2, fit_of_wf w1⟩
end

end Go.Proofs.Ytllanhboaoedmaa

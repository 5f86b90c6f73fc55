/-
  How a slice of octets among the arguments is read.
-/
import Derived.Test.YtmndkofdoclihaaRow
import Derived.Test.YtmndkofdoclihaaOct
import Derived.Lib.SmallJoins
namespace Go.Proofs.Ytmndkofdoclihaa
open Go.ChangeShapes Go.WideShapes Go.ChangeAt Go.RowKit Go.Joins

theorem Try.cellsOct : Try.prog.cellsOf 5 = 1 := by kernel_rfl
theorem Try.bytesOct : Try.prog.bytesOf 5 = 1 := by kernel_rfl

section
variable {H : Type} {enc : TypeId × Value → H}

set_option maxRecDepth 100000 in
/-- A slice of octets, as 'trod' reads it, reads as a list. -/
theorem octs_trod {t : TypeId} (ht : Try.prog.underlying t = some (.slice 5)) {W : World} {A : Option Addr} {n c fuel : Nat} {x : DataW H × List MemPlace}
    (hf : DataW.trod enc Try.prog W 0 (fun _ => true) true fuel t [.slice A n c] = some x) (hlt : ∀ y ∈ x.2, y.block < W.heap.size) :
    n ≤ 9223372036854775807 ∧ ∃ zs, n ≤ 140737488351232 → Octs W A n zs := by
  rcases open_ints ht Try.underlying5 Try.cellsOct hf with ⟨hcs, hx⟩ | ⟨a, len', cap', zs, hcs, _, hl, hm, hz, hx, hcell, hwz⟩
  · simp at hcs
    obtain ⟨rfl, rfl, rfl⟩ := hcs
    exact ⟨by omega, [], fun _ => Octs.nil_ _ _⟩
  · simp at hcs
    obtain ⟨rfl, rfl, rfl⟩ := hcs
    subst hx
    simp only [if_true] at hz
    unfold maxLen at hm
    refine ⟨by omega, zs.take n, fun hn47 => ⟨by rw [List.length_take]; omega, hn47, fun z hz => oct_of_wf (hwz z (List.mem_of_mem_take hz)), fun hn => ?_⟩⟩
    obtain ⟨b, off, spot⟩ := a
    have hspot : spot = none := by simpa [Addr.add] using World.cell?_spot (hcell 0 (by omega))
    subst hspot
    have hbW : b < W.heap.size := hlt (.cell b off) (MemPlace.mem_row.2 ⟨0, by omega, by simp⟩)
    refine ⟨b, off, rfl, hbW, fun j hj => ?_⟩
    have := hcell j (by omega)
    rw [add_plain] at this
    rw [this]
    simp [nth, List.getD, hj]

set_option maxRecDepth 100000 in
/-- A slice of octets among the arguments reads as a list. -/
theorem open_octs {t : TypeId} (ht : Try.prog.underlying t = some (.slice 5)) {W : World} {r : Reach} {base : Nat} {v : Value} {d : DataW H} {p : List MemPlace} (hval : Value.okWide Try.prog W r base t v)
    (h : DataW.Trod enc Try.prog W 0 (fun _ => true) true t v d p) (hlt : ∀ x ∈ p, x.block < W.heap.size) :
    ∃ A n c zs, v = .slice A n c ∧ n ≤ 9223372036854775807 ∧ (n ≤ 140737488351232 → Octs W A n zs) := by
  obtain ⟨a0, len, cap, rfl⟩ := okWide_slice ht hval
  obtain ⟨fuel, hf⟩ := h
  obtain ⟨h1, zs, h2⟩ := octs_trod ht (by simpa [Value.cells] using hf) hlt
  exact ⟨a0, len, cap, zs, rfl, h1, h2⟩

end

end Go.Proofs.Ytmndkofdoclihaa

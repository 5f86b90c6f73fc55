/-
  How slices of bools are read among the arguments of laws.
-/
import Derived.Test.YtljfinfjchkphaaRow
import Derived.Test.YtljfinfjchkphaaFlag
import Derived.Lib.SmallJoins
import Derived.Deep.Grids
namespace Go.Proofs.Ytljfinfjchkphaa
open Go.ChangeShapes Go.WideShapes Go.ChangeAt Go.RowKit Go.Joins Go.Deep

theorem Try.cellsBoolF : Try.prog.cellsOf 4 = 1 := by kernel_rfl
section
variable {H : Type} {enc : TypeId × Value → H}
set_option maxRecDepth 100000 in
theorem flags_trod {t : TypeId} (ht : Try.prog.underlying t = some (.slice 4)) {W : World} {A : Option Addr} {n c fuel : Nat} {x : DataW H × List MemPlace}
    (hf : DataW.trod enc Try.prog W 0 (fun _ => true) true fuel t [.slice A n c] = some x) (hlt : ∀ y ∈ x.2, y.block < W.heap.size) :
    n ≤ 9223372036854775807 ∧ ∃ zs, n ≤ 400 → Flags W A n zs := by
  rcases open_bools ht Try.underlying4 Try.cellsBoolF hf with ⟨hcs, hx⟩ | ⟨a, len', cap', F, hcs, _, hl, hm, hx, hcell⟩
  · simp at hcs
    obtain ⟨rfl, rfl, rfl⟩ := hcs
    exact ⟨by omega, [], fun _ => Flags.nil_ _ _⟩
  · simp at hcs
    obtain ⟨rfl, rfl, rfl⟩ := hcs
    subst hx
    unfold maxLen at hm
    refine ⟨by omega, (List.range n).map F, fun hn4 => ⟨by simp, by omega, fun hn => ?_⟩⟩
    obtain ⟨b, off, spot⟩ := a
    have hspot : spot = none := by simpa [Addr.add] using World.cell?_spot (hcell 0 (by omega))
    subst hspot
    have hbW : b < W.heap.size := hlt (.cell b off) (MemPlace.mem_row.2 ⟨0, by omega, by simp⟩)
    refine ⟨b, off, rfl, hbW, fun j hj => ?_⟩
    have := hcell j (by omega)
    rw [add_plain] at this
    rw [this]
    simp [bth, List.getD, hj]

set_option maxRecDepth 100000 in
theorem open_flags {W : World} {r : Reach} {base : Nat} {v : Value} {d : DataW H} {p : List MemPlace} (hval : Value.okWide Try.prog W r base 27 v)
    (h : DataW.Trod enc Try.prog W 0 (fun _ => true) true 27 v d p) (hlt : ∀ x ∈ p, x.block < W.heap.size) :
    ∃ A n c zs, v = .slice A n c ∧ n ≤ 9223372036854775807 ∧ (n ≤ 400 → Flags W A n zs) := by
  obtain ⟨a0, len, cap, rfl⟩ := okWide_slice Try.underlying27 hval
  obtain ⟨fuel, hf⟩ := h
  obtain ⟨h1, zs, h2⟩ := flags_trod Try.underlying27 (by simpa [Value.cells] using hf) hlt
  exact ⟨a0, len, cap, zs, rfl, h1, h2⟩

end

end Go.Proofs.Ytljfinfjchkphaa

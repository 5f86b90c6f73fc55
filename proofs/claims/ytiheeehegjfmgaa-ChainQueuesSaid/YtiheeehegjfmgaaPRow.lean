/-
  How chains among the arguments of layer 6's laws are read.
-/
import Derived.Test.YtiheeehegjfmgaaRow
import Derived.Test.YtiheeehegjfmgaaCp
import Derived.Lib.SmallJoins
import Derived.Deep.Grids
namespace Go.Proofs.Ytiheeehegjfmgaa
open Go.ChangeShapes Go.WideShapes Go.ChangeAt Go.RowKit Go.Joins Go.Deep

theorem Try.cellsInt : Try.prog.cellsOf 3 = 1 := by kernel_rfl
theorem Try.cellsChains : Try.prog.cellsOf 24 = 3 := by kernel_rfl

section
variable {H : Type} {enc : TypeId × Value → H}

theorem ints_trod {t : TypeId} (ht : Try.prog.underlying t = some (.slice 3)) {W : World} {A : Option Addr} {n c fuel : Nat} {x : DataW H × List MemPlace}
    (hf : DataW.trod enc Try.prog W 0 (fun _ => true) true fuel t [.slice A n c] = some x) (hlt : ∀ y ∈ x.2, y.block < W.heap.size) :
    n ≤ 9223372036854775807 ∧ ∃ zs, n ≤ 2000 → Ints W A n zs := by
  rcases open_ints ht Try.underlying3 Try.cellsInt hf with ⟨hcs, hx⟩ | ⟨a, len', cap', zs, hcs, _, hl, hm, hz, hx, hcell, hwz⟩
  · simp at hcs
    obtain ⟨rfl, rfl, rfl⟩ := hcs
    exact ⟨by omega, [], fun _ => Ints.nil_ _ _⟩
  · simp at hcs
    obtain ⟨rfl, rfl, rfl⟩ := hcs
    subst hx
    simp only [if_true] at hz
    unfold maxLen at hm
    refine ⟨by omega, zs.take n, fun hn4 => ⟨by rw [List.length_take]; omega, by omega, fun z hz => fit_of_wf (hwz z (List.mem_of_mem_take hz)), fun hn => ?_⟩⟩
    obtain ⟨b, off, spot⟩ := a
    have hspot : spot = none := by simpa [Addr.add] using World.cell?_spot (hcell 0 (by omega))
    subst hspot
    have hbW : b < W.heap.size := hlt (.cell b off) (MemPlace.mem_row.2 ⟨0, by omega, by simp⟩)
    refine ⟨b, off, rfl, hbW, fun j hj => ?_⟩
    have := hcell j (by omega)
    rw [add_plain] at this
    rw [this]
    simp [nth, List.getD, hj]

/-- Chains among the arguments. -/
theorem open_chn {W : World} {r : Reach} {base : Nat} {v : Value} {d : DataW H} {p : List MemPlace} (hval : Value.okWide Try.prog W r base 24 v)
    (h : DataW.Trod enc Try.prog W 0 (fun _ => true) true 24 v d p) (hlt : ∀ x ∈ p, x.block < W.heap.size) :
    ∃ A n a B m b D k d' next head tail, v = .agg #[.slice A n a, .slice B m b, .slice D k d'] ∧ n ≤ 9223372036854775807 ∧ m ≤ 9223372036854775807 ∧ k ≤ 9223372036854775807 ∧ (n ≤ 2000 → m ≤ 2000 → k ≤ 2000 → Chn W A n B m D k next head tail) := by
  obtain ⟨c0, c1, c2, y0, y1, y2, m, rfl, rfl, rfl, h0, h1, h2⟩ := open_agg3 Try.underlying24 (by kernel_rfl) Try.cellsChains hval h
  have hs : ∀ {c y fuel}, DataW.trod enc Try.prog W 0 (fun _ => true) true fuel 22 [c] = some y → ∃ A n c', c = .slice A n c' := by
    intro c y fuel h0
    rcases open_ints Try.underlying22 Try.underlying3 Try.cellsInt h0 with ⟨hcs, _⟩ | ⟨a, len', cap', zs, hcs, _⟩
    · simp at hcs; exact ⟨_, _, _, hcs⟩
    · simp at hcs; exact ⟨_, _, _, hcs⟩
  obtain ⟨A, n, c, rfl⟩ := hs h0
  obtain ⟨B, m', d', rfl⟩ := hs h1
  obtain ⟨D, k, d2, rfl⟩ := hs h2
  obtain ⟨g1, gs, g2⟩ := ints_trod Try.underlying22 h0 (fun y hy => hlt y (by simp [hy]))
  obtain ⟨g3, ls, g4⟩ := ints_trod Try.underlying22 h1 (fun y hy => hlt y (by simp [hy]))
  obtain ⟨g5, ts, g6⟩ := ints_trod Try.underlying22 h2 (fun y hy => hlt y (by simp [hy]))
  exact ⟨A, n, c, B, m', d', D, k, d2, gs, ls, ts, rfl, g1, g3, g5, fun a b e => ⟨g2 a, g4 b, g6 e⟩⟩
end

end Go.Proofs.Ytiheeehegjfmgaa

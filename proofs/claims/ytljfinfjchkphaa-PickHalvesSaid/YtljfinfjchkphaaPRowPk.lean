/-
  How the arguments of layer 16's laws are read: dice; a slice of bools of whatever length, by its beginnings.
-/
import Derived.Test.YtljfinfjchkphaaOpenOct
import Derived.Test.YtljfinfjchkphaaOpenInt
import Derived.Test.YtljfinfjchkphaaPRowF
import Derived.Test.YtljfinfjchkphaaPRowTn
namespace Go.Proofs.Ytljfinfjchkphaa
open Go.ChangeShapes Go.WideShapes Go.ChangeAt Go.RowKit Go.Joins Go.Deep

theorem Try.cellsDice : Try.prog.cellsOf 24 = 2 := by kernel_rfl

section
variable {H : Type} {enc : TypeId × Value → H}
set_option maxRecDepth 100000 in
/-- Dice among the arguments. -/
theorem open_dice {W : World} {r : Reach} {base : Nat} {v : Value} {d : DataW H} {p : List MemPlace} (hval : Value.okWide Try.prog W r base 24 v)
    (h : DataW.Trod enc Try.prog W 0 (fun _ => true) true 24 v d p) (hlt : ∀ x ∈ p, x.block < W.heap.size) :
    ∃ A n c q zs, v = .agg #[.slice A n c, .int .i64 q] ∧ n ≤ 9223372036854775807 ∧ (n ≤ 140737488351232 → Octs W A n zs) ∧ Fit q := by
  obtain ⟨c0, c1, y0, y1, m, rfl, rfl, rfl, h0, h1⟩ := open_agg2 Try.underlying24 (by kernel_rfl) Try.cellsDice hval h
  obtain ⟨x1, e1, _, w1⟩ := DataW.trod_int Try.underlying3 h1
  simp at e1
  subst e1
  have hs : ∃ A n c, c0 = .slice A n c := by
    rcases open_ints Try.underlying22 Try.underlying5 (show Try.prog.cellsOf 5 = 1 by kernel_rfl) h0 with ⟨hcs, _⟩ | ⟨a, len', cap', zs, hcs, _⟩
    · simp at hcs; exact ⟨_, _, _, hcs⟩
    · simp at hcs; exact ⟨_, _, _, hcs⟩
  obtain ⟨A, n, c, rfl⟩ := hs
  obtain ⟨g1, zs, g2⟩ := octs_trod Try.underlying22 h0 (fun y hy => hlt y (by simp [hy]))
  exact ⟨A, n, c, x1, zs, rfl, g1, g2, fit_of_wf w1⟩

set_option maxRecDepth 100000 in
/-- A slice of bools among the arguments: each beginning of it reads as a list. -/
theorem open_bigflags {W : World} {r : Reach} {base : Nat} {v : Value} {d : DataW H} {p : List MemPlace} (hval : Value.okWide Try.prog W r base 27 v)
    (h : DataW.Trod enc Try.prog W 0 (fun _ => true) true 27 v d p) (hlt : ∀ x ∈ p, x.block < W.heap.size) :
    ∃ A n c G, v = .slice A n c ∧ (n ≤ c ∧ c ≤ 9223372036854775807) ∧ ∀ k, k ≤ n → k ≤ 400 → Flags W A k ((List.range k).map G) := by
  obtain ⟨a0, len, cap, rfl⟩ := okWide_slice Try.underlying27 hval
  obtain ⟨fuel, hf⟩ := h
  rcases open_bools Try.underlying27 Try.underlying4 Try.cellsBoolF hf with ⟨hcs, hx⟩ | ⟨a, len', cap', F, hcs, _, hl, hm, hx, hcell⟩
  · simp [Value.cells] at hcs
    obtain ⟨rfl, rfl, rfl⟩ := hcs
    refine ⟨none, 0, 0, fun _ => false, rfl, by omega, fun k hk _ => ?_⟩
    obtain rfl : k = 0 := by omega
    exact Flags.nil_ _ _
  · simp [Value.cells] at hcs
    obtain ⟨rfl, rfl, rfl⟩ := hcs
    simp only [Prod.mk.injEq] at hx
    obtain ⟨rfl, rfl⟩ := hx
    unfold maxLen at hm
    refine ⟨_, _, _, F, rfl, by omega, fun k hk h4 => ⟨by simp, by omega, fun hn => ?_⟩⟩
    obtain ⟨b, off, spot⟩ := a
    have hspot : spot = none := by simpa [Addr.add] using World.cell?_spot (hcell 0 (by omega))
    subst hspot
    have hbW : b < W.heap.size := hlt (.cell b off) (MemPlace.mem_row.2 ⟨0, by omega, by simp⟩)
    refine ⟨b, off, rfl, hbW, fun j hj => ?_⟩
    have := hcell j (by omega)
    rw [add_plain] at this
    rw [this]
    simp [bth, List.getD, hj]
end

end Go.Proofs.Ytljfinfjchkphaa

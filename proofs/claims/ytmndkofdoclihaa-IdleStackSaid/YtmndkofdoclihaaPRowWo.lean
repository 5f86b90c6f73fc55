/-
  How workers (a struct of two slices of int) among the arguments of layer 17's laws are read.
-/
import Derived.Test.YtmndkofdoclihaaOpenInt
import Derived.Test.YtmndkofdoclihaaOpenOct
namespace Go.Proofs.Ytmndkofdoclihaa
open Go.ChangeShapes Go.WideShapes Go.ChangeAt Go.RowKit Go.Joins

theorem Try.cellsIdle : Try.prog.cellsOf 24 = 2 := by kernel_rfl

section
variable {H : Type} {enc : TypeId × Value → H}

theorem nums_trod {t : TypeId} (ht : Try.prog.underlying t = some (.slice 3)) {W : World} {A : Option Addr} {n c fuel : Nat} {x : DataW H × List MemPlace}
    (hf : DataW.trod enc Try.prog W 0 (fun _ => true) true fuel t [.slice A n c] = some x) (hlt : ∀ y ∈ x.2, y.block < W.heap.size)
    {ts : List TypeId} {ds : List (DataW H)} (hsz : (DataW.weightsEach Try.prog ts ds).all (· ≤ reachBytes) = true) {j : Nat} (hj : ts[j]? = some t) (hd : ds[j]? = some x.1) :
    ∃ zs, Ints W A n zs := by
  rcases open_ints ht Try.underlying3 Try.cellsInt hf with ⟨hcs, hx⟩ | ⟨a, len', cap', zs, hcs, _, hl, hm, hz, hx, hcell, hwz⟩
  · simp at hcs
    obtain ⟨rfl, rfl, rfl⟩ := hcs
    exact ⟨[], Ints.nil_ _ _⟩
  · simp at hcs
    obtain ⟨rfl, rfl, rfl⟩ := hcs
    subst hx
    simp only [if_true] at hz
    have hreach : n * 8 ≤ 140737488351232 := by
      have := sized_slice hsz hj hd ht
      rw [Try.bytesInt] at this
      simp only [lits, List.length_map, List.length_take, List.length_drop, reachBytes] at this
      omega
    refine ⟨zs.take n, by rw [List.length_take]; omega, hreach, fun z hz => fit_of_wf (hwz z (List.mem_of_mem_take hz)), fun hn => ?_⟩
    obtain ⟨b, off, spot⟩ := a
    have hspot : spot = none := by simpa [Addr.add] using World.cell?_spot (hcell 0 (by omega))
    subst hspot
    have hbW : b < W.heap.size := hlt (.cell b off) (MemPlace.mem_row.2 ⟨0, by omega, by simp⟩)
    refine ⟨b, off, rfl, hbW, fun j hj => ?_⟩
    have := hcell j (by omega)
    rw [add_plain] at this
    rw [this]
    simp [nth, List.getD, hj]

set_option maxRecDepth 100000 in
/-- Workers among the arguments. -/
theorem open_idle {W : World} {r : Reach} {base : Nat} {v : Value} {d : DataW H} {p : List MemPlace} (hval : Value.okWide Try.prog W r base 24 v)
    (h : DataW.Trod enc Try.prog W 0 (fun _ => true) true 24 v d p) (hlt : ∀ x ∈ p, x.block < W.heap.size)
    {ts : List TypeId} {ds : List (DataW H)} (hsz : (DataW.weightsEach Try.prog ts ds).all (· ≤ reachBytes) = true) {j : Nat} (hj : ts[j]? = some 24) (hd : ds[j]? = some d) :
    ∃ A n a B m b xs ys, v = .agg #[.slice A n a, .slice B m b] ∧ Ints W A n xs ∧ Ints W B m ys := by
  obtain ⟨c0, c1, y0, y1, k, rfl, rfl, rfl, h0, h1⟩ := open_agg2 Try.underlying24 (by kernel_rfl) Try.cellsIdle hval h
  have shape : ∀ {c : Value} {y : DataW H × List MemPlace}, DataW.trod enc Try.prog W 0 (fun _ => true) true k 22 [c] = some y → ∃ A n d, c = .slice A n d := by
    intro c y hc
    rcases open_ints Try.underlying22 Try.underlying3 Try.cellsInt hc with ⟨hcs, _⟩ | ⟨a, len', cap', zs, hcs, _⟩
    · simp at hcs; exact ⟨_, _, _, hcs⟩
    · simp at hcs; exact ⟨_, _, _, hcs⟩
  obtain ⟨A, n, a, rfl⟩ := shape h0
  obtain ⟨B, m, b, rfl⟩ := shape h1
  have hw : (DataW.weightsEach Try.prog [22, 22] [y0.1, y1.1]).all (· ≤ reachBytes) = true := by
    rw [List.all_eq_true] at hsz ⊢
    intro q hq
    exact hsz q (DataW.weights_mem_each hj hd q (by simpa [DataW.weights, Try.underlying24] using hq))
  obtain ⟨xs, g0⟩ := nums_trod Try.underlying22 h0 (fun y hy => hlt y (by simp [hy])) hw (j := 0) rfl rfl
  obtain ⟨ys, g1⟩ := nums_trod Try.underlying22 h1 (fun y hy => hlt y (by simp [hy])) hw (j := 1) rfl rfl
  exact ⟨A, n, a, B, m, b, xs, ys, rfl, g0, g1⟩
end

end Go.Proofs.Ytmndkofdoclihaa

/-
  Layer 19: how configs among the arguments are read.
-/
import Derived.Test.YtpfnoohcilefhaaPRow
import Derived.Test.YtpfnoohcilefhaaEne
namespace Go.Proofs.Ytpfnoohcilefhaa
open Go.ChangeShapes Go.WideShapes Go.ChangeAt Go.RowKit Go.Joins Go.Deep

set_option maxRecDepth 100000 in
theorem Try.cellsConfig : Try.prog.cellsOf 25 = 9 := by kernel_rfl
set_option maxRecDepth 100000 in
theorem Try.cellsNums : Try.prog.cellsOf 22 = 1 := by kernel_rfl
set_option maxRecDepth 100000 in
theorem Try.cellsPrgs : Try.prog.cellsOf 23 = 1 := by kernel_rfl

section
variable {H : Type} {enc : TypeId × Value → H}

set_option maxRecDepth 100000 in
theorem nums_trodC {t : TypeId} (ht : Try.prog.underlying t = some (.slice 3)) {W : World} {A : Option Addr} {n c fuel : Nat} {x : DataW H × List MemPlace}
    (hf : DataW.trod enc Try.prog W 0 (fun _ => true) true fuel t [.slice A n c] = some x) (hlt : ∀ y ∈ x.2, y.block < W.heap.size)
    {ts : List TypeId} {ds : List (DataW H)} (hsz : (DataW.weightsEach Try.prog ts ds).all (· ≤ reachBytes) = true) {j : Nat} (hj : ts[j]? = some t) (hd : ds[j]? = some x.1) :
    ∃ zs, Ints W A n zs := by
  rcases open_ints ht Try.underlying3 Try.cellsInt hf with ⟨hcs, hx⟩ | ⟨a, len', cap', zs, hcs, _, hl, hm, hz, hx, hcell, hwz⟩
  · simp at hcs
    obtain ⟨rfl, rfl, rfl⟩ := hcs
    exact ⟨[], Ints.nil_ _ _⟩
  · simp at hcs
    obtain ⟨rfl, rfl, rfl⟩ := hcs
    subst hx
    simp only [if_true] at hz
    have hreach : n * 8 ≤ 140737488351232 := by
      have := sized_slice hsz hj hd ht
      rw [Try.bytesInt] at this
      simp only [lits, List.length_map, List.length_take, List.length_drop, reachBytes] at this
      omega
    refine ⟨zs.take n, by rw [List.length_take]; omega, hreach, fun z hz => fit_of_wf (hwz z (List.mem_of_mem_take hz)), fun hn => ?_⟩
    obtain ⟨b, off, spot⟩ := a
    have hspot : spot = none := by simpa [Addr.add] using World.cell?_spot (hcell 0 (by omega))
    subst hspot
    have hbW : b < W.heap.size := hlt (.cell b off) (MemPlace.mem_row.2 ⟨0, by omega, by simp⟩)
    refine ⟨b, off, rfl, hbW, fun j hj => ?_⟩
    have := hcell j (by omega)
    rw [add_plain] at this
    rw [this]
    simp [nth, List.getD, hj]


set_option maxRecDepth 100000 in
theorem prgs_trodC {W : World} {A : Option Addr} {n c fuel : Nat} {x : DataW H × List MemPlace} (hf : DataW.trod enc Try.prog W 0 (fun _ => true) true fuel 23 [.slice A n c] = some x) (hlt : ∀ y ∈ x.2, y.block < W.heap.size) : ∃ l, Prgs W A n l := by
  rcases open_slice Try.underlying23 hf with ⟨hcs, hx⟩ | ⟨a, len', cap', m, n', D, Pl, hcs, _, hl, hm, hmm, hx, hel⟩
  · simp at hcs
    obtain ⟨rfl, rfl, rfl⟩ := hcs
    exact ⟨[], Prgs.nil_ _ _⟩
  · simp at hcs
    obtain ⟨rfl, rfl, rfl⟩ := hcs
    subst hx
    simp only [if_true] at hmm
    subst hmm
    unfold maxLen at hm
    obtain ⟨X, hX⟩ := choose_lt (α := Hd × List I3) (p := fun i x => W.cell? (a.add i) = some (hv x.1) ∧ Prog W x.1.1 x.1.2.1 x.1.2.2 x.2) (fun i hi => by
      obtain ⟨cs', h1, h2⟩ := hel i hi
      rw [Try.cellsSlice] at h1
      obtain ⟨_, hn, hcell⟩ := World.cells?_some h1
      match cs', hn with
      | [v0], _ =>
        have hone := hcell 0 (by omega)
        rw [Nat.mul_one, add_add] at hone
        obtain ⟨A', n1, c1, e⟩ : ∃ A' n1 c1, v0 = .slice A' n1 c1 := by
          rcases open_slice Try.underlying59 h2 with ⟨hcs, _⟩ | ⟨a', l', c', _, _, _, _, hcs, _⟩
          · simp at hcs; exact ⟨_, _, _, hcs⟩
          · simp at hcs; exact ⟨_, _, _, hcs⟩
        subst e
        obtain ⟨q, hq⟩ := prog_trod h2 (fun y hy => hlt y (List.mem_append_right _ (List.mem_flatMap.2 ⟨i, List.mem_range.2 hi, by simpa using hy⟩)))
        exact ⟨((A', n1, c1), q), by simpa [hv] using hone, hq⟩)
    refine ⟨(List.range n).map fun i => (X i).2, by simp, by omega, (List.range n).map fun i => (X i).1, ⟨by simp, fun j hj => ?_⟩, fun hn => ?_⟩
    · have hj' : j < n := by simpa using hj
      have e1 : hth ((List.range n).map fun i => (X i).1) j = (X j).1 := by simp [hth, List.getD, hj']
      have e2 : pth ((List.range n).map fun i => (X i).2) j = (X j).2 := by simp [pth, List.getD, hj']
      rw [e1, e2]
      exact (hX j (by omega)).2
    · obtain ⟨b, off, spot⟩ := a
      have h00 := (hX 0 (by omega)).1
      have hspot : spot = none := by simpa [Addr.add] using World.cell?_spot h00
      subst hspot
      have hbW : b < W.heap.size := hlt (.cell b off) (List.mem_append_left _ (MemPlace.mem_row.2 ⟨0, by rw [Try.cellsSlice]; omega, by simp⟩))
      refine ⟨b, off, rfl, hbW, fun j hj => ?_⟩
      have := (hX j (by omega)).1
      rw [add_plain] at this
      have e1 : hth ((List.range n).map fun i => (X i).1) j = (X j).1 := by simp [hth, List.getD, hj]
      rw [e1]
      exact this


set_option maxRecDepth 100000 in
set_option maxHeartbeats 1000000 in
/-- A config among the arguments. -/
theorem open_cfg {W : World} {r : Reach} {base : Nat} {v : Value} {d : DataW H} {p : List MemPlace} (hval : Value.okWide Try.prog W r base 25 v)
    (h : DataW.Trod enc Try.prog W 0 (fun _ => true) true 25 v d p) (hlt : ∀ x ∈ p, x.block < W.heap.size)
    {ts : List TypeId} {ds : List (DataW H)} (hsz : (DataW.weightsEach Try.prog ts ds).all (· ≤ reachBytes) = true) {j : Nat} (hj : ts[j]? = some 25) (hd : ds[j]? = some d) :
    ∃ x a, v = .agg (cfc x a) ∧ CfR W x a := by
  obtain ⟨⟨cs⟩, rfl, hcs⟩ := okWide_struct Try.underlying25 hval
  rw [Try.cellsConfig] at hcs
  obtain ⟨fuel, hf⟩ := h
  obtain ⟨xs, k, hk, hxy, _, hxl, hfs⟩ := DataW.trod_struct Try.underlying25 hf
  have hint : ∀ {c : Value} {y : DataW H × List MemPlace}, DataW.trod enc Try.prog W 0 (fun _ => true) true k 3 [c] = some y → ∃ z, c = .int .i64 z := by
    intro c y hc
    obtain ⟨x0, e0, _, _⟩ := DataW.trod_int Try.underlying3 hc
    simp at e0
    exact ⟨x0, e0⟩
  have shape : ∀ {c : Value} {y : DataW H × List MemPlace}, DataW.trod enc Try.prog W 0 (fun _ => true) true k 22 [c] = some y → ∃ A n d, c = .slice A n d := by
    intro c y hc
    rcases open_ints Try.underlying22 Try.underlying3 Try.cellsInt hc with ⟨hcs, _⟩ | ⟨a, len', cap', zs, hcs, _⟩
    · simp at hcs; exact ⟨_, _, _, hcs⟩
    · simp at hcs; exact ⟨_, _, _, hcs⟩
  have shapeP : ∀ {c : Value} {y : DataW H × List MemPlace}, DataW.trod enc Try.prog W 0 (fun _ => true) true k 23 [c] = some y → ∃ A n d, c = .slice A n d := by
    intro c y hc
    rcases open_slice Try.underlying23 hc with ⟨hcs, _⟩ | ⟨a', l', c', _, _, _, _, hcs, _⟩
    · simp at hcs; exact ⟨_, _, _, hcs⟩
    · simp at hcs; exact ⟨_, _, _, hcs⟩
  simp only [Prod.mk.injEq] at hxy
  obtain ⟨rfl, rfl⟩ := hxy
  match xs, hxl, cs, hcs with
  | [y0, y1, y2, y3, y4, y5, y6, y7, y8], _, [v0, v1, v2, v3, v4, v5, v6, v7, v8], _ =>
    have g0 := hfs 0 _ rfl
    have g1 := hfs 1 _ rfl
    have g2 := hfs 2 _ rfl
    have g3 := hfs 3 _ rfl
    have g4 := hfs 4 _ rfl
    have g5 := hfs 5 _ rfl
    have g6 := hfs 6 _ rfl
    have g7 := hfs 7 _ rfl
    have g8 := hfs 8 _ rfl
    simp [Value.cells, Try.cellsInt, Try.cellsNums, Try.cellsPrgs] at g0 g1 g2 g3 g4 g5 g6 g7 g8
    obtain ⟨wk, rfl⟩ := hint g0
    obtain ⟨cp, rfl⟩ := hint g1
    obtain ⟨bd, rfl⟩ := hint g2
    obtain ⟨A, n, c, rfl⟩ := shape g3
    obtain ⟨B, m, e, rfl⟩ := shape g4
    obtain ⟨F, q, f, rfl⟩ := shapeP g5
    obtain ⟨tk, rfl⟩ := hint g6
    obtain ⟨fd, rfl⟩ := hint g7
    obtain ⟨G, s, u, rfl⟩ := shape g8
    have hw : (DataW.weightsEach Try.prog [3, 3, 3, 22, 22, 23, 3, 3, 22] [y0.1, y1.1, y2.1, y3.1, y4.1, y5.1, y6.1, y7.1, y8.1]).all (· ≤ reachBytes) = true := by
      rw [List.all_eq_true] at hsz ⊢
      intro q hq
      exact hsz q (DataW.weights_mem_each hj hd q (by simpa [DataW.weights, Try.underlying25] using hq))
    obtain ⟨ws, k3⟩ := nums_trodC Try.underlying22 g3 (fun y hy => hlt y (by simp [hy])) hw (j := 3) rfl rfl
    obtain ⟨qs, k4⟩ := nums_trodC Try.underlying22 g4 (fun y hy => hlt y (by simp [hy])) hw (j := 4) rfl rfl
    obtain ⟨P, k5⟩ := prgs_trodC g5 (fun y hy => hlt y (by simp [hy]))
    obtain ⟨sm, k8⟩ := nums_trodC Try.underlying22 g8 (fun y hy => hlt y (by simp [hy])) hw (j := 8) rfl rfl
    exact ⟨⟨wk, cp, bd, ws, qs, P, tk, fd, sm⟩, ⟨A, n, c, B, m, e, F, q, f, G, s, u⟩, rfl, k3, k4, k5, k8⟩
end

end Go.Proofs.Ytpfnoohcilefhaa

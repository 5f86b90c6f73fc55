/-
  How a slice of what is done (structs of four numbers) among the arguments of layer 6's laws is read.
-/
import Derived.Test.YtiheeehegjfmgaaPRow
import Derived.Test.YtiheeehegjfmgaaQuS
import Derived.Deep.Slices
namespace Go.Proofs.Ytiheeehegjfmgaa
open Go.ChangeShapes Go.WideShapes Go.ChangeAt Go.RowKit Go.Joins Go.Deep

theorem Try.bytesOp : Try.prog.bytesOf 49 = 32 := by kernel_rfl
theorem Try.cellsOp : Try.prog.cellsOf 49 = 4 := by kernel_rfl

section
variable {H : Type} {enc : TypeId × Value → H} {W : World}

/-- Four cells that read as one of them hold four numbers. -/
theorem op_cells {a : Addr} {fuel : Nat} {cs : List Value} {y : DataW H × List MemPlace} (h1 : W.cells? 0 a 4 = some cs) (h2 : DataW.trod enc Try.prog W 0 (fun _ => true) true fuel 49 cs = some y) :
    ∃ x : OpT, (Fit x.1 ∧ Fit x.2.1 ∧ Fit x.2.2.1 ∧ Fit x.2.2.2) ∧ W.cell? (a.add 0) = some (.int .i64 x.1) ∧ W.cell? (a.add 1) = some (.int .i64 x.2.1) ∧ W.cell? (a.add 2) = some (.int .i64 x.2.2.1) ∧ W.cell? (a.add 3) = some (.int .i64 x.2.2.2) := by
  obtain ⟨_, hlen, hcell⟩ := World.cells?_some h1
  obtain ⟨xs, k, hk, hxy, _, hxl, hf⟩ := DataW.trod_struct Try.underlying49 h2
  match xs, hxl, cs, hlen with
  | [y0, y1, y2, y3], _, [v0, v1, v2, v3], _ =>
    have g0 := hf 0 _ rfl
    have g1 := hf 1 _ rfl
    have g2 := hf 2 _ rfl
    have g3 := hf 3 _ rfl
    simp [Try.cellsInt] at g0 g1 g2 g3
    obtain ⟨x0, e0, _, w0⟩ := DataW.trod_int Try.underlying3 g0
    obtain ⟨x1, e1, _, w1⟩ := DataW.trod_int Try.underlying3 g1
    obtain ⟨x2, e2, _, w2⟩ := DataW.trod_int Try.underlying3 g2
    obtain ⟨x3, e3, _, w3⟩ := DataW.trod_int Try.underlying3 g3
    simp at e0 e1 e2 e3
    subst e0 e1 e2 e3
    have q0 := hcell 0 (by omega)
    have q1 := hcell 1 (by omega)
    have q2 := hcell 2 (by omega)
    have q3 := hcell 3 (by omega)
    exact ⟨(x0, x1, x2, x3), ⟨fit_of_wf w0, fit_of_wf w1, fit_of_wf w2, fit_of_wf w3⟩, by simpa using q0, by simpa using q1, by simpa using q2, by simpa using q3⟩

theorem open_opq {t : TypeId} (ht : Try.prog.underlying t = some (.slice 49)) {r : Reach} {base : Nat} {v : Value} {d : DataW H} {p : List MemPlace} (hval : Value.okWide Try.prog W r base t v)
    (h : DataW.Trod enc Try.prog W 0 (fun _ => true) true t v d p) (hlt : ∀ x ∈ p, x.block < W.heap.size)
    {ts : List TypeId} {ds : List (DataW H)} (hsz : (DataW.weightsEach Try.prog ts ds).all (· ≤ reachBytes) = true) {j : Nat} (hj : ts[j]? = some t) (hd : ds[j]? = some d) :
    ∃ A n c l, v = .slice A n c ∧ Opq W A n l := by
  obtain ⟨a0, len, cap, rfl⟩ := okWide_slice ht hval
  obtain ⟨fuel, hf⟩ := h
  refine ⟨a0, len, cap, ?_⟩
  rcases open_slice ht hf with ⟨hcs, hx⟩ | ⟨a, len', cap', m, n, D, Pl, hcs, _, hl, hm, hmm, hx, hel⟩
  · simp [Value.cells] at hcs
    obtain ⟨rfl, rfl, rfl⟩ := hcs
    exact ⟨[], rfl, by omega, fun h => by omega⟩
  · simp [Value.cells] at hcs
    obtain ⟨rfl, rfl, rfl⟩ := hcs
    simp only [Prod.mk.injEq] at hx
    obtain ⟨rfl, rfl⟩ := hx
    simp only [if_true] at hmm
    subst hmm
    have hreach : len * 32 ≤ 140737488351232 := by
      have := sized_slice hsz hj hd ht
      rw [Try.bytesOp] at this
      simp only [List.length_map, List.length_range, reachBytes] at this
      omega
    obtain ⟨X, hX⟩ := choose_lt (α := OpT) (p := fun i x => (Fit x.1 ∧ Fit x.2.1 ∧ Fit x.2.2.1 ∧ Fit x.2.2.2) ∧ W.cell? ((a.add (i * 4)).add 0) = some (.int .i64 x.1) ∧ W.cell? ((a.add (i * 4)).add 1) = some (.int .i64 x.2.1) ∧ W.cell? ((a.add (i * 4)).add 2) = some (.int .i64 x.2.2.1) ∧ W.cell? ((a.add (i * 4)).add 3) = some (.int .i64 x.2.2.2)) (fun i hi => by
      obtain ⟨cs', h1, h2⟩ := hel i hi
      rw [Try.cellsOp] at h1
      exact op_cells h1 h2)
    refine ⟨(List.range len).map X, rfl, hreach, fun hn => ?_⟩
    obtain ⟨b, off, spot⟩ := a
    have h00 := (hX 0 (by omega)).2.1
    rw [add_add] at h00
    have hspot : spot = none := by simpa [Addr.add] using World.cell?_spot h00
    subst hspot
    have hbW : b < W.heap.size := hlt (.cell b off) (List.mem_append_left _ (MemPlace.mem_row.2 ⟨0, by rw [Try.cellsOp]; omega, by simp⟩))
    refine ⟨b, off, rfl, hbW, fun j hj => ?_⟩
    obtain ⟨⟨f0, f1, f2, f3⟩, k0, k1, k2, k3⟩ := hX j (by omega)
    have e : oth ((List.range len).map X) j = X j := by simp [oth, List.getD, hj]
    rw [add_add, add_plain] at k0 k1 k2 k3
    rw [e]
    exact ⟨f0, f1, f2, f3, k0, k1, k2, k3⟩
end

end Go.Proofs.Ytiheeehegjfmgaa

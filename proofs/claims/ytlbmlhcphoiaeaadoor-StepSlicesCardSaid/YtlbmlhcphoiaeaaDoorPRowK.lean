/-
  How a task, and a slice of int with its room, among the arguments of laws of layer 12 are read.
-/
import Derived.Test.YtlbmlhcphoiaeaaDoorOpenInt
import Derived.Test.YtlbmlhcphoiaeaaDoorRowL
namespace Go.Proofs.YtlbmlhcphoiaeaaDoor
open Go.ChangeShapes Go.WideShapes Go.ChangeAt Go.RowKit Go.Joins

theorem Tryd.cellsTk : Tryd.prog.cellsOf 24 = 11 := by kernel_rfl
theorem Tryd.cellsI64 : Tryd.prog.cellsOf 2 = 1 := by kernel_rfl
theorem Tryd.cellsK4 : Tryd.prog.cellsOf 22 = 4 := by kernel_rfl
theorem array11 {α : Type} {cs : Array α} (h : cs.size = 11) : ∃ c0 c1 c2 c3 c4 c5 c6 c7 c8 c9 c10, cs = #[c0, c1, c2, c3, c4, c5, c6, c7, c8, c9, c10] := by
  obtain ⟨l⟩ := cs
  match l, h with
  | [c0, c1, c2, c3, c4, c5, c6, c7, c8, c9, c10], _ => exact ⟨c0, c1, c2, c3, c4, c5, c6, c7, c8, c9, c10, rfl⟩
section
variable {H : Type} {enc : TypeId × Value → H}
theorem open_numc {t : TypeId} (ht : Tryd.prog.underlying t = some (.slice 3)) {W : World} {r : Reach} {base : Nat} {v : Value} {d : DataW H} {p : List MemPlace} (hval : Value.okWide Tryd.prog W r base t v)
    (h : DataW.Trod enc Tryd.prog W 0 (fun _ => true) true t v d p) (hlt : ∀ x ∈ p, x.block < W.heap.size)
    {ts : List TypeId} {ds : List (DataW H)} (hsz : (DataW.weightsEach Tryd.prog ts ds).all (· ≤ reachBytes) = true) {j : Nat} (hj : ts[j]? = some t) (hd : ds[j]? = some d) :
    ∃ A n c zs, v = .slice A n c ∧ Ints W A n zs ∧ n ≤ c := by
  obtain ⟨A, n, c, zs, rfl, hx⟩ := open_nums ht hval h hlt hsz hj hd
  refine ⟨A, n, c, zs, rfl, hx, ?_⟩
  obtain ⟨fuel, hf⟩ := h
  rcases open_ints ht Tryd.underlying3 Tryd.cellsInt hf with ⟨hcs, hx⟩ | ⟨a, len', cap', zs, hcs, _, hl, hm, hz, hx, hcell, hwz⟩
  · simp [Value.cells] at hcs
    omega
  · simp [Value.cells] at hcs
    obtain ⟨_, rfl, rfl⟩ := hcs
    exact hl

theorem open_task {W : World} {r : Reach} {base : Nat} {v : Value} {d : DataW H} {p : List MemPlace} (hval : Value.okWide Tryd.prog W r base 24 v)
    (h : DataW.Trod enc Tryd.prog W 0 (fun _ => true) true 24 v d p) :
    ∃ (x0 x1 x2 x3 x4 y0 y1 y2 y3 x6 x7 : Int), v = .agg #[.int .i64 x0, .int .i64 x1, .int .i64 x2, .int .i64 x3, .int .i64 x4, .int .i64 y0, .int .i64 y1, .int .i64 y2, .int .i64 y3, .int .i64 x6, .int .i64 x7] := by
  obtain ⟨cs, rfl, hsz⟩ := okWide_struct Tryd.underlying24 hval
  obtain ⟨c0, c1, c2, c3, c4, c5, c6, c7, c8, c9, c10, rfl⟩ := array11 (hsz.trans Tryd.cellsTk)
  obtain ⟨fuel, hf⟩ := h
  obtain ⟨xs, n, _, _, _, hlen, hfi⟩ := DataW.trod_struct Tryd.underlying24 hf
  have hx : ∀ i, i < 8 → ∃ y, xs[i]? = some y := fun i hi => ⟨xs[i]'(by rw [hlen]; exact hi), List.getElem?_eq_getElem _⟩
  obtain ⟨z0, e0⟩ := hx 0 (by omega)
  have g0 : DataW.trod enc Tryd.prog W 0 (fun _ => true) true n 2 ((([c0, c1, c2, c3, c4, c5, c6, c7, c8, c9, c10] : List Value).drop 0).take (Tryd.prog.cellsOf 2)) = xs[0]? := hfi 0 _ rfl
  rw [Tryd.cellsI64, e0] at g0
  obtain ⟨x0, k0, -, -⟩ := DataW.trod_int Tryd.underlying2 g0
  simp at k0
  obtain ⟨z1, e1⟩ := hx 1 (by omega)
  have g1 : DataW.trod enc Tryd.prog W 0 (fun _ => true) true n 3 ((([c0, c1, c2, c3, c4, c5, c6, c7, c8, c9, c10] : List Value).drop 1).take (Tryd.prog.cellsOf 3)) = xs[1]? := hfi 1 _ rfl
  rw [Tryd.cellsInt, e1] at g1
  obtain ⟨x1, k1, -, -⟩ := DataW.trod_int Tryd.underlying3 g1
  simp at k1
  obtain ⟨z2, e2⟩ := hx 2 (by omega)
  have g2 : DataW.trod enc Tryd.prog W 0 (fun _ => true) true n 3 ((([c0, c1, c2, c3, c4, c5, c6, c7, c8, c9, c10] : List Value).drop 2).take (Tryd.prog.cellsOf 3)) = xs[2]? := hfi 2 _ rfl
  rw [Tryd.cellsInt, e2] at g2
  obtain ⟨x2, k2, -, -⟩ := DataW.trod_int Tryd.underlying3 g2
  simp at k2
  obtain ⟨z3, e3⟩ := hx 3 (by omega)
  have g3 : DataW.trod enc Tryd.prog W 0 (fun _ => true) true n 3 ((([c0, c1, c2, c3, c4, c5, c6, c7, c8, c9, c10] : List Value).drop 3).take (Tryd.prog.cellsOf 3)) = xs[3]? := hfi 3 _ rfl
  rw [Tryd.cellsInt, e3] at g3
  obtain ⟨x3, k3, -, -⟩ := DataW.trod_int Tryd.underlying3 g3
  simp at k3
  obtain ⟨z4, e4⟩ := hx 4 (by omega)
  have g4 : DataW.trod enc Tryd.prog W 0 (fun _ => true) true n 3 ((([c0, c1, c2, c3, c4, c5, c6, c7, c8, c9, c10] : List Value).drop 4).take (Tryd.prog.cellsOf 3)) = xs[4]? := hfi 4 _ rfl
  rw [Tryd.cellsInt, e4] at g4
  obtain ⟨x4, k4, -, -⟩ := DataW.trod_int Tryd.underlying3 g4
  simp at k4
  obtain ⟨z5, e5⟩ := hx 5 (by omega)
  have g5 : DataW.trod enc Tryd.prog W 0 (fun _ => true) true n 22 ((([c0, c1, c2, c3, c4, c5, c6, c7, c8, c9, c10] : List Value).drop 5).take (Tryd.prog.cellsOf 22)) = xs[5]? := hfi 5 _ rfl
  rw [Tryd.cellsK4, e5] at g5
  obtain ⟨ys, m, _, _, _, hl4, hel⟩ := DataW.trod_array Tryd.underlying22 g5
  have hy : ∀ j, j < 4 → ∃ y, ys[j]? = some y := fun j hj => ⟨ys[j]'(by rw [hl4]; exact hj), List.getElem?_eq_getElem _⟩
  obtain ⟨u0, f0⟩ := hy 0 (by omega)
  have q0 := hel 0 (by omega)
  rw [Tryd.cellsI64, f0] at q0
  obtain ⟨y0, l0, -, -⟩ := DataW.trod_int Tryd.underlying2 q0
  simp at l0
  obtain ⟨u1, f1⟩ := hy 1 (by omega)
  have q1 := hel 1 (by omega)
  rw [Tryd.cellsI64, f1] at q1
  obtain ⟨y1, l1, -, -⟩ := DataW.trod_int Tryd.underlying2 q1
  simp at l1
  obtain ⟨u2, f2⟩ := hy 2 (by omega)
  have q2 := hel 2 (by omega)
  rw [Tryd.cellsI64, f2] at q2
  obtain ⟨y2, l2, -, -⟩ := DataW.trod_int Tryd.underlying2 q2
  simp at l2
  obtain ⟨u3, f3⟩ := hy 3 (by omega)
  have q3 := hel 3 (by omega)
  rw [Tryd.cellsI64, f3] at q3
  obtain ⟨y3, l3, -, -⟩ := DataW.trod_int Tryd.underlying2 q3
  simp at l3
  obtain ⟨z6, e6⟩ := hx 6 (by omega)
  have g6 : DataW.trod enc Tryd.prog W 0 (fun _ => true) true n 3 ((([c0, c1, c2, c3, c4, c5, c6, c7, c8, c9, c10] : List Value).drop 9).take (Tryd.prog.cellsOf 3)) = xs[6]? := hfi 6 _ rfl
  rw [Tryd.cellsInt, e6] at g6
  obtain ⟨x6, k6, -, -⟩ := DataW.trod_int Tryd.underlying3 g6
  simp at k6
  obtain ⟨z7, e7⟩ := hx 7 (by omega)
  have g7 : DataW.trod enc Tryd.prog W 0 (fun _ => true) true n 2 ((([c0, c1, c2, c3, c4, c5, c6, c7, c8, c9, c10] : List Value).drop 10).take (Tryd.prog.cellsOf 2)) = xs[7]? := hfi 7 _ rfl
  rw [Tryd.cellsI64, e7] at g7
  obtain ⟨x7, k7, -, -⟩ := DataW.trod_int Tryd.underlying2 g7
  simp at k7
  subst k0 k1 k2 k3 k4 k6 k7 l0 l1 l2 l3
  exact ⟨x0, x1, x2, x3, x4, y0, y1, y2, y3, x6, x7, rfl⟩
end

end Go.Proofs.YtlbmlhcphoiaeaaDoor

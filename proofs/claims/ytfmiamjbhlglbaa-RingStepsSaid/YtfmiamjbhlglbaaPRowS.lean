/-
  How a hand by value among the arguments of layer 7's laws is read.
-/
import Derived.Test.YtfmiamjbhlglbaaPRow
namespace Go.Proofs.Ytfmiamjbhlglbaa
open Go.ChangeShapes Go.WideShapes Go.ChangeAt Go.RowKit Go.Joins

theorem Try.cellsHd : Try.prog.cellsOf 27 = 7 := by kernel_rfl
theorem Try.cellsIn : Try.prog.cellsOf 3 = 1 := by kernel_rfl
theorem Try.cellsBo : Try.prog.cellsOf 4 = 1 := by kernel_rfl
theorem array7 {α : Type} {cs : Array α} (h : cs.size = 7) : ∃ c0 c1 c2 c3 c4 c5 c6, cs = #[c0, c1, c2, c3, c4, c5, c6] := by
  obtain ⟨l⟩ := cs
  match l, h with
  | [c0, c1, c2, c3, c4, c5, c6], _ => exact ⟨c0, c1, c2, c3, c4, c5, c6, rfl⟩
section
variable {H : Type} {enc : TypeId × Value → H}
theorem open_hand {W : World} {r : Reach} {base : Nat} {v : Value} {d : DataW H} {p : List MemPlace} (hval : Value.okWide Try.prog W r base 27 v)
    (h : DataW.Trod enc Try.prog W 0 (fun _ => true) true 27 v d p) :
    ∃ (k q x t b : Int) (wn : Bool) (s : Int), v = .agg #[.int .i64 k, .int .i64 q, .int .i64 x, .int .i64 t, .int .i64 b, .bool wn, .int .i64 s] ∧ Fit k ∧ Fit q ∧ Fit x ∧ Fit s := by
  obtain ⟨cs, rfl, hsz⟩ := okWide_struct Try.underlying27 hval
  obtain ⟨c0, c1, c2, c3, c4, c5, c6, rfl⟩ := array7 (hsz.trans Try.cellsHd)
  obtain ⟨fuel, hf⟩ := h
  obtain ⟨xs, n, _, _, _, hlen, hfi⟩ := DataW.trod_struct Try.underlying27 hf
  have hx : ∀ i, i < 7 → ∃ y, xs[i]? = some y := fun i hi => ⟨xs[i]'(by rw [hlen]; exact hi), List.getElem?_eq_getElem _⟩
  obtain ⟨y0, e0⟩ := hx 0 (by omega)
  have g0 : DataW.trod enc Try.prog W 0 (fun _ => true) true n 3 ((([c0, c1, c2, c3, c4, c5, c6] : List Value).drop 0).take (Try.prog.cellsOf 3)) = xs[0]? := hfi 0 _ rfl
  rw [Try.cellsIn, e0] at g0
  obtain ⟨x0, k0, -, w0⟩ := DataW.trod_int Try.underlying3 g0
  simp only [List.drop_zero, List.take_succ_cons, List.take_zero, List.cons.injEq, and_true] at k0
  obtain ⟨y1, e1⟩ := hx 1 (by omega)
  have g1 : DataW.trod enc Try.prog W 0 (fun _ => true) true n 3 ((([c0, c1, c2, c3, c4, c5, c6] : List Value).drop 1).take (Try.prog.cellsOf 3)) = xs[1]? := hfi 1 _ rfl
  rw [Try.cellsIn, e1] at g1
  obtain ⟨x1, k1, -, w1⟩ := DataW.trod_int Try.underlying3 g1
  simp only [List.drop_succ_cons, List.drop_zero, List.take_succ_cons, List.take_zero, List.cons.injEq, and_true] at k1
  obtain ⟨y2, e2⟩ := hx 2 (by omega)
  have g2 : DataW.trod enc Try.prog W 0 (fun _ => true) true n 2 ((([c0, c1, c2, c3, c4, c5, c6] : List Value).drop 2).take (Try.prog.cellsOf 2)) = xs[2]? := hfi 2 _ rfl
  rw [Try.cellsI, e2] at g2
  obtain ⟨x2, k2, -, w2⟩ := DataW.trod_int Try.underlying2 g2
  simp only [List.drop_succ_cons, List.drop_zero, List.take_succ_cons, List.take_zero, List.cons.injEq, and_true] at k2
  obtain ⟨y3, e3⟩ := hx 3 (by omega)
  have g3 : DataW.trod enc Try.prog W 0 (fun _ => true) true n 2 ((([c0, c1, c2, c3, c4, c5, c6] : List Value).drop 3).take (Try.prog.cellsOf 2)) = xs[3]? := hfi 3 _ rfl
  rw [Try.cellsI, e3] at g3
  obtain ⟨x3, k3, -, w3⟩ := DataW.trod_int Try.underlying2 g3
  simp only [List.drop_succ_cons, List.drop_zero, List.take_succ_cons, List.take_zero, List.cons.injEq, and_true] at k3
  obtain ⟨y4, e4⟩ := hx 4 (by omega)
  have g4 : DataW.trod enc Try.prog W 0 (fun _ => true) true n 2 ((([c0, c1, c2, c3, c4, c5, c6] : List Value).drop 4).take (Try.prog.cellsOf 2)) = xs[4]? := hfi 4 _ rfl
  rw [Try.cellsI, e4] at g4
  obtain ⟨x4, k4, -, w4⟩ := DataW.trod_int Try.underlying2 g4
  simp only [List.drop_succ_cons, List.drop_zero, List.take_succ_cons, List.take_zero, List.cons.injEq, and_true] at k4
  obtain ⟨y5, e5⟩ := hx 5 (by omega)
  have g5 : DataW.trod enc Try.prog W 0 (fun _ => true) true n 4 ((([c0, c1, c2, c3, c4, c5, c6] : List Value).drop 5).take (Try.prog.cellsOf 4)) = xs[5]? := hfi 5 _ rfl
  rw [Try.cellsBo, e5] at g5
  obtain ⟨x5, k5, -⟩ := DataW.trod_bool Try.underlying4 g5
  simp only [List.drop_succ_cons, List.drop_zero, List.take_succ_cons, List.take_zero, List.cons.injEq, and_true] at k5
  obtain ⟨y6, e6⟩ := hx 6 (by omega)
  have g6 : DataW.trod enc Try.prog W 0 (fun _ => true) true n 3 ((([c0, c1, c2, c3, c4, c5, c6] : List Value).drop 6).take (Try.prog.cellsOf 3)) = xs[6]? := hfi 6 _ rfl
  rw [Try.cellsIn, e6] at g6
  obtain ⟨x6, k6, -, w6⟩ := DataW.trod_int Try.underlying3 g6
  simp only [List.drop_succ_cons, List.drop_zero, List.take_succ_cons, List.take_zero, List.cons.injEq, and_true] at k6
  subst k0 k1 k2 k3 k4 k5 k6
  exact ⟨x0, x1, x2, x3, x4, x5, x6, rfl, fit_of_wf w0, fit_of_wf w1, fit_of_wf w2, fit_of_wf w6⟩
end

end Go.Proofs.Ytfmiamjbhlglbaa

/-
  How an access (a struct of four numbers, by value) among the arguments is read.
-/
import Derived.Test.YtmmilceemnggiaaCRow
import Derived.Lib.SmallJoins
namespace Go.Proofs.Ytmmilceemnggiaa
open Go.ChangeShapes Go.WideShapes Go.ChangeAt Go.RowKit Go.Joins

theorem Try.cellsMic : Try.prog.cellsOf 25 = 4 := by kernel_rfl

theorem open_mic {H : Type} {enc : TypeId × Value → H} {W : World} {r : Reach} {base : Nat} {v : Value} {d : DataW H} {p : List MemPlace} (hval : Value.okWide Try.prog W r base 25 v)
    (h : DataW.Trod enc Try.prog W 0 (fun _ => true) true 25 v d p) :
    ∃ k q a b : Int, v = .agg #[.int .i64 k, .int .i64 q, .int .i64 a, .int .i64 b] ∧ Fit k ∧ Fit q ∧ Fit a ∧ Fit b := by
  obtain ⟨c0, c1, c2, c3, y0, y1, y2, y3, m, rfl, rfl, rfl, h0, h1, h2, h3⟩ := open_agg4 Try.underlying25 (by kernel_rfl) Try.cellsMic hval h
  obtain ⟨x0, e0, _, w0⟩ := DataW.trod_int Try.underlying3 h0
  obtain ⟨x1, e1, _, w1⟩ := DataW.trod_int Try.underlying3 h1
  obtain ⟨x2, e2, _, w2⟩ := DataW.trod_int Try.underlying2 h2
  obtain ⟨x3, e3, _, w3⟩ := DataW.trod_int Try.underlying2 h3
  simp at e0 e1 e2 e3
  subst e0 e1 e2 e3
  exact ⟨x0, x1, x2, x3, rfl, fit_of_wf w0, fit_of_wf w1, fit_of_wf w2, fit_of_wf w3⟩

end Go.Proofs.Ytmmilceemnggiaa

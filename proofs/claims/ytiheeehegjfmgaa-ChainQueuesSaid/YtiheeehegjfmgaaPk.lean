/-
  What lies there while a copy of chains is written into: the chains, where they are handed back, the copy's variable, and its rows.
-/
import Derived.Test.YtiheeehegjfmgaaPg
namespace Go.Proofs.Ytiheeehegjfmgaa
open Go.RowKit Go.Shelf

structure PuS (w W : World) (cs : Array Value) (g : Nat) (A5 : Option Addr) (a5 : Nat) (B5 : Option Addr) (b5 : Nat) (D5 : Option Addr) (d5 n m : Nat) (N H T : List Int) : Prop where
  c : Bk W w.heap.size 24 cs
  z : Bk W (w.heap.size + 1) 24 #[.slice none 0 0, .slice none 0 0, .slice none 0 0]
  p : Bk W g 24 #[.slice A5 n a5, .slice B5 m b5, .slice D5 m d5]
  below : Below w.heap.size w W
  k : OwnK W (w.heap.size + 2) A5 a5 B5 b5 D5 d5 N H T
  hg : w.heap.size + 2 ≤ g
  hN : N.length = n
  hH : H.length = m
  hT : T.length = m

section
variable {w W W' : World} {cs : Array Value} {g : Nat} {A5 B5 D5 : Option Addr} {a5 b5 d5 n m : Nat} {N H T : List Int}
theorem PuS.call (h : PuS w W cs g A5 a5 B5 b5 D5 d5 n m N H T) (hb : Below W.heap.size W W') : PuS w W' cs g A5 a5 B5 b5 D5 d5 n m N H T :=
  ⟨h.c.below hb h.c.lt, h.z.below hb h.z.lt, h.p.below hb h.p.lt, below3 h.below hb, h.k.below hb, h.hg, h.hN, h.hH, h.hT⟩
theorem row_ne {W : World} {base gA a g : Nat} {zs : List Int} {cs : Array Value} (h : OwnI 3 W base (some ⟨gA, 0, none⟩) a zs) (hk : Bk W g 24 cs) : g ≠ gA := by
  rintro rfl
  obtain ⟨xs, hx⟩ := h.que.type (n := 0) (d := 0) (k := g) rfl
  have := bk_types hx hk
  revert this; decide
theorem PuS.setN {gA j : Nat} {x : Int} (h : PuS w W cs g (some ⟨gA, 0, none⟩) a5 B5 b5 D5 d5 n m N H T) (hx : Fit x) : PuS w (W.setCell ⟨gA, j, none⟩ (.int .i64 x)) cs g (some ⟨gA, 0, none⟩) a5 B5 b5 D5 d5 n m (N.set j x) H T := by
  have e1 := row_ne h.k.c.x h.p
  have hb := h.k.c.x.block (n := 0) (d := 0) gA rfl
  exact ⟨h.c.far (by simp only []; omega) _, h.z.far (by simp only []; omega) _, h.p.far (by simpa using e1) _, h.below.setCell (p := ⟨gA, j, none⟩) (by simp only []; omega) _, h.k.setN j hx, h.hg, by rw [List.length_set]; exact h.hN, h.hH, h.hT⟩
theorem PuS.setH {gB j : Nat} {x : Int} (h : PuS w W cs g A5 a5 (some ⟨gB, 0, none⟩) b5 D5 d5 n m N H T) (hx : Fit x) : PuS w (W.setCell ⟨gB, j, none⟩ (.int .i64 x)) cs g A5 a5 (some ⟨gB, 0, none⟩) b5 D5 d5 n m N (H.set j x) T := by
  have e1 := row_ne h.k.c.h h.p
  have hb := h.k.c.h.block (n := 0) (d := 0) gB rfl
  exact ⟨h.c.far (by simp only []; omega) _, h.z.far (by simp only []; omega) _, h.p.far (by simpa using e1) _, h.below.setCell (p := ⟨gB, j, none⟩) (by simp only []; omega) _, h.k.setH j hx, h.hg, h.hN, by rw [List.length_set]; exact h.hH, h.hT⟩
theorem PuS.setT {gD j : Nat} {x : Int} (h : PuS w W cs g A5 a5 B5 b5 (some ⟨gD, 0, none⟩) d5 n m N H T) (hx : Fit x) : PuS w (W.setCell ⟨gD, j, none⟩ (.int .i64 x)) cs g A5 a5 B5 b5 (some ⟨gD, 0, none⟩) d5 n m N H (T.set j x) := by
  have e1 := row_ne h.k.c.t h.p
  have hb := h.k.c.t.block (n := 0) (d := 0) gD rfl
  exact ⟨h.c.far (by simp only []; omega) _, h.z.far (by simp only []; omega) _, h.p.far (by simpa using e1) _, h.below.setCell (p := ⟨gD, j, none⟩) (by simp only []; omega) _, h.k.setT j hx, h.hg, h.hN, h.hH, by rw [List.length_set]; exact h.hT⟩
theorem PuS.drew (h : PuS w W cs g A5 a5 B5 b5 D5 d5 n m N H T) : PuS w W.drew cs g A5 a5 B5 b5 D5 d5 n m N H T := h.call (Below.refl _ _).drew
theorem PuS.alloc (h : PuS w W cs g A5 a5 B5 b5 D5 d5 n m N H T) (o : Obj) : PuS w (W.alloc o) cs g A5 a5 B5 b5 D5 d5 n m N H T := h.call ((Below.refl _ _).alloc (Nat.le_refl _) _)
/-- What is handed back. -/
theorem PuS.done {er : Int} (h : PuS w W cs g A5 a5 B5 b5 D5 d5 n m N H T) :
    NewCE N H T er w (.returned (.tuple #[.agg #[.slice A5 n a5, .slice B5 m b5, .slice D5 m d5], .int .i64 er])) (((W.setCell ⟨w.heap.size + 1, 0, none⟩ (.slice A5 n a5)).setCell ⟨w.heap.size + 1, 1, none⟩ (.slice B5 m b5)).setCell ⟨w.heap.size + 1, 2, none⟩ (.slice D5 m d5)) := by
  refine ⟨A5, a5, B5, b5, D5, d5, by rw [h.hN, h.hH, h.hT], (((h.k.far (g := w.heap.size + 1) (j := 0) (by omega) (.slice A5 n a5)).far (g := w.heap.size + 1) (j := 1) (by omega) (.slice B5 m b5)).far (g := w.heap.size + 1) (j := 2) (by omega) (.slice D5 m d5)).base_ (by omega), ?_⟩
  exact ((h.below.setCell (p := ⟨w.heap.size + 1, 0, none⟩) (by simp) (.slice A5 n a5)).setCell (p := ⟨w.heap.size + 1, 1, none⟩) (by simp) (.slice B5 m b5)).setCell (p := ⟨w.heap.size + 1, 2, none⟩) (by simp) (.slice D5 m d5)
theorem PuS.cellN {gA j : Nat} (h : PuS w W cs g (some ⟨gA, 0, none⟩) a5 B5 b5 D5 d5 n m N H T) (hj : j < n) : W.cell? ⟨gA, j, none⟩ = some (.int .i64 (nth N j)) ∧ W.frozen? ⟨gA, j, none⟩ = false := h.k.c.x.at_ (by rw [h.hN]; exact hj)
theorem PuS.cellH {gB j : Nat} (h : PuS w W cs g A5 a5 (some ⟨gB, 0, none⟩) b5 D5 d5 n m N H T) (hj : j < m) : W.cell? ⟨gB, j, none⟩ = some (.int .i64 (nth H j)) ∧ W.frozen? ⟨gB, j, none⟩ = false := h.k.c.h.at_ (by rw [h.hH]; exact hj)
theorem PuS.cellT {gD j : Nat} (h : PuS w W cs g A5 a5 B5 b5 (some ⟨gD, 0, none⟩) d5 n m N H T) (hj : j < m) : W.cell? ⟨gD, j, none⟩ = some (.int .i64 (nth T j)) ∧ W.frozen? ⟨gD, j, none⟩ = false := h.k.c.t.at_ (by rw [h.hT]; exact hj)
end

end Go.Proofs.Ytiheeehegjfmgaa

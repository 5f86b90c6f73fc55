/-
  Layer 12: what New, Move and Keep answer, as plain words; a task stored whole.
-/
import Derived.Test.YtlbmlhcphoiaeaaDoorTkc
namespace Go.Proofs.YtlbmlhcphoiaeaaDoor
open Go.RowKit

/-- Error and task. -/
def newT (id tn pg : Int) : Tk := ⟨id, tn, pg, 0, 0, -1, -1, -1, -1, 1, 0⟩
def newR (id tn pg : Int) : Int × Tk := if okT (newT id tn pg) then (0, newT id tn pg) else (1, zT)
def moveR (t : Tk) (nx : Int) : Int × Tk := if ¬ okT t then (1, zT) else if ¬ stB nx = true then (1, zT) else if ¬ legB t.st nx = true then (9, zT) else (0, { t with st := nx })
def setK (t : Tk) (s a : Int) : Tk := if s = 0 then { t with k0 := a } else if s = 1 then { t with k1 := a } else if s = 2 then { t with k2 := a } else { t with k3 := a }
def keepR (t : Tk) (s a : Int) : Int × Tk := if ¬ okT t then (1, zT) else if ¬ (0 ≤ s ∧ s < 4) then (1, zT) else if ¬ (-1 ≤ a) then (1, zT) else if t.st = 7 then (9, zT) else (0, setK t s a)
theorem moveR_1 {t : Tk} {nx : Int} (h : ¬ okT t) : moveR t nx = (1, zT) := if_pos h
theorem moveR_2 {t : Tk} {nx : Int} (h : okT t) (k : ¬ stB nx = true) : moveR t nx = (1, zT) := by unfold moveR; rw [if_neg (fun q => q h), if_pos k]
theorem moveR_3 {t : Tk} {nx : Int} (h : okT t) (k : stB nx = true) (l : ¬ legB t.st nx = true) : moveR t nx = (9, zT) := by unfold moveR; rw [if_neg (fun q => q h), if_neg (fun q => q k), if_pos l]
theorem moveR_4 {t : Tk} {nx : Int} (h : okT t) (k : stB nx = true) (l : legB t.st nx = true) : moveR t nx = (0, { t with st := nx }) := by unfold moveR; rw [if_neg (fun q => q h), if_neg (fun q => q k), if_neg (fun q => q l)]
theorem keepR_1 {t : Tk} {s a : Int} (h : ¬ okT t) : keepR t s a = (1, zT) := if_pos h
theorem keepR_2 {t : Tk} {s a : Int} (h : okT t) (k : ¬ (0 ≤ s ∧ s < 4)) : keepR t s a = (1, zT) := by unfold keepR; rw [if_neg (fun q => q h), if_pos k]
theorem keepR_3 {t : Tk} {s a : Int} (h : okT t) (k : 0 ≤ s ∧ s < 4) (l : ¬ (-1 ≤ a)) : keepR t s a = (1, zT) := by unfold keepR; rw [if_neg (fun q => q h), if_neg (fun q => q k), if_pos l]
theorem keepR_4 {t : Tk} {s a : Int} (h : okT t) (k : 0 ≤ s ∧ s < 4) (l : -1 ≤ a) (m : t.st = 7) : keepR t s a = (9, zT) := by unfold keepR; rw [if_neg (fun q => q h), if_neg (fun q => q k), if_neg (fun q => q l), if_pos m]
theorem keepR_5 {t : Tk} {s a : Int} (h : okT t) (k : 0 ≤ s ∧ s < 4) (l : -1 ≤ a) (m : ¬ t.st = 7) : keepR t s a = (0, setK t s a) := by unfold keepR; rw [if_neg (fun q => q h), if_neg (fun q => q k), if_neg (fun q => q l), if_neg m]
theorem chk_1 {t : Tk} (h : ¬ okT t) : chkE t = 1 := if_neg h
theorem chk_0 {t : Tk} (h : okT t) : chkE t = 0 := if_pos h

section
variable {W : World} {g : Nat} {t : TypeId} {x0 x1 x2 x3 x4 x5 x6 x7 x8 x9 x10 : Value}
def set11 (W : World) (g : Nat) (v0 v1 v2 v3 v4 v5 v6 v7 v8 v9 v10 : Value) : World := ((((((((((W.setCell ⟨g, 0, none⟩ v0).setCell ⟨g, 1, none⟩ v1).setCell ⟨g, 2, none⟩ v2).setCell ⟨g, 3, none⟩ v3).setCell ⟨g, 4, none⟩ v4).setCell ⟨g, 5, none⟩ v5).setCell ⟨g, 6, none⟩ v6).setCell ⟨g, 7, none⟩ v7).setCell ⟨g, 8, none⟩ v8).setCell ⟨g, 9, none⟩ v9).setCell ⟨g, 10, none⟩ v10
theorem bk_set11 (h : Bk W g t #[x0, x1, x2, x3, x4, x5, x6, x7, x8, x9, x10]) (v0 v1 v2 v3 v4 v5 v6 v7 v8 v9 v10 : Value) : Bk (set11 W g v0 v1 v2 v3 v4 v5 v6 v7 v8 v9 v10) g t #[v0, v1, v2, v3, v4, v5, v6, v7, v8, v9, v10] := by
  have a0 : Bk (_) g t #[v0, x1, x2, x3, x4, x5, x6, x7, x8, x9, x10] := h.set_ 0 v0
  have a1 : Bk (_) g t #[v0, v1, x2, x3, x4, x5, x6, x7, x8, x9, x10] := a0.set_ 1 v1
  have a2 : Bk (_) g t #[v0, v1, v2, x3, x4, x5, x6, x7, x8, x9, x10] := a1.set_ 2 v2
  have a3 : Bk (_) g t #[v0, v1, v2, v3, x4, x5, x6, x7, x8, x9, x10] := a2.set_ 3 v3
  have a4 : Bk (_) g t #[v0, v1, v2, v3, v4, x5, x6, x7, x8, x9, x10] := a3.set_ 4 v4
  have a5 : Bk (_) g t #[v0, v1, v2, v3, v4, v5, x6, x7, x8, x9, x10] := a4.set_ 5 v5
  have a6 : Bk (_) g t #[v0, v1, v2, v3, v4, v5, v6, x7, x8, x9, x10] := a5.set_ 6 v6
  have a7 : Bk (_) g t #[v0, v1, v2, v3, v4, v5, v6, v7, x8, x9, x10] := a6.set_ 7 v7
  have a8 : Bk (_) g t #[v0, v1, v2, v3, v4, v5, v6, v7, v8, x9, x10] := a7.set_ 8 v8
  have a9 : Bk (_) g t #[v0, v1, v2, v3, v4, v5, v6, v7, v8, v9, x10] := a8.set_ 9 v9
  have a10 : Bk (_) g t #[v0, v1, v2, v3, v4, v5, v6, v7, v8, v9, v10] := a9.set_ 10 v10
  exact a10
theorem below_set11 {B : Nat} {w : World} (h : Below B w W) (hg : B ≤ g) (v0 v1 v2 v3 v4 v5 v6 v7 v8 v9 v10 : Value) : Below B w (set11 W g v0 v1 v2 v3 v4 v5 v6 v7 v8 v9 v10) :=
  ((((((((((h.setCell (p := ⟨g, 0, none⟩) hg v0).setCell (p := ⟨g, 1, none⟩) hg v1).setCell (p := ⟨g, 2, none⟩) hg v2).setCell (p := ⟨g, 3, none⟩) hg v3).setCell (p := ⟨g, 4, none⟩) hg v4).setCell (p := ⟨g, 5, none⟩) hg v5).setCell (p := ⟨g, 6, none⟩) hg v6).setCell (p := ⟨g, 7, none⟩) hg v7).setCell (p := ⟨g, 8, none⟩) hg v8).setCell (p := ⟨g, 9, none⟩) hg v9).setCell (p := ⟨g, 10, none⟩) hg v10
theorem far_set11 {k : Nat} {cs : Array Value} {u : TypeId} (h : Bk W k u cs) (hne : k ≠ g) (v0 v1 v2 v3 v4 v5 v6 v7 v8 v9 v10 : Value) : Bk (set11 W g v0 v1 v2 v3 v4 v5 v6 v7 v8 v9 v10) k u cs :=
  ((((((((((h.far (p := ⟨g, 0, none⟩) hne v0).far (p := ⟨g, 1, none⟩) hne v1).far (p := ⟨g, 2, none⟩) hne v2).far (p := ⟨g, 3, none⟩) hne v3).far (p := ⟨g, 4, none⟩) hne v4).far (p := ⟨g, 5, none⟩) hne v5).far (p := ⟨g, 6, none⟩) hne v6).far (p := ⟨g, 7, none⟩) hne v7).far (p := ⟨g, 8, none⟩) hne v8).far (p := ⟨g, 9, none⟩) hne v9).far (p := ⟨g, 10, none⟩) hne v10
end

end Go.Proofs.YtlbmlhcphoiaeaaDoor

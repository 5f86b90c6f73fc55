import Derived.Test.YtfhlligcbpnkkaaDoorMg4
import Derived.Test.YtfhlligcbpnkkaaDoorMg1
import Derived.Test.YtfhlligcbpnkkaaDoorRows

/-
  Layer 12: what New, Move and Keep answer, as plain words; a task stored whole.
-/
namespace Go.Proofs.YtfhlligcbpnkkaaDoor
open Go.RowKit

/-- Error and task. -/
def newT (id tn pg : Int) : Tk := ⟨id, tn, pg, 0, 0, -1, -1, -1, -1, 1, 0⟩
def newR (id tn pg : Int) : Int × Tk := if okT (newT id tn pg) then (0, newT id tn pg) else (1, zT)
def moveR (t : Tk) (nx : Int) : Int × Tk := if ¬ okT t then (1, zT) else if ¬ stB nx = true then (1, zT) else if ¬ legB t.st nx = true then (9, zT) else (0, { t with st := nx })
def setK (t : Tk) (s a : Int) : Tk := if s = 0 then { t with k0 := a } else if s = 1 then { t with k1 := a } else if s = 2 then { t with k2 := a } else { t with k3 := a }
def keepR (t : Tk) (s a : Int) : Int × Tk := if ¬ okT t then (1, zT) else if ¬ (0 ≤ s ∧ s < 4) then (1, zT) else if ¬ (-1 ≤ a) then (1, zT) else if t.st = 7 then (9, zT) else (0, setK t s a)
theorem moveR_1 {t : Tk} {nx : Int} (h : ¬ okT t) : moveR t nx = (1, zT) := if_pos h
theorem moveR_2 {t : Tk} {nx : Int} (h : okT t) (k : ¬ stB nx = true) : moveR t nx = (1, zT) := by unfold moveR; rw [if_neg (fun q => q h), if_pos k]
theorem moveR_3 {t : Tk} {nx : Int} (h : okT t) (k : stB nx = true) (l : ¬ legB t.st nx = true) : moveR t nx = (9, zT) := by unfold moveR; rw [if_neg (fun q => q h), if_neg (fun q => q k), if_pos l]
theorem moveR_4 {t : Tk} {nx : Int} (h : okT t) (k : stB nx = true) (l : legB t.st nx = true) : moveR t nx = (0, { t with st := nx }) := by unfold moveR; rw [if_neg (fun q => q h), if_neg (fun q => q k), if_neg (fun q => q l)]
theorem keepR_1 {t : Tk} {s a : Int} (h : ¬ okT t) : keepR t s a = (1, zT) := if_pos h
theorem keepR_2 {t : Tk} {s a : Int} (h : okT t) (k : ¬ (0 ≤ s ∧ s < 4)) : keepR t s a = (1, zT) := by unfold keepR; rw [if_neg (fun q => q h), if_pos k]
theorem keepR_3 {t : Tk} {s a : Int} (h : okT t) (k : 0 ≤ s ∧ s < 4) (l : ¬ (-1 ≤ a)) : keepR t s a = (1, zT) := by unfold keepR; rw [if_neg (fun q => q h), if_neg (fun q => q k), if_pos l]
theorem keepR_4 {t : Tk} {s a : Int} (h : okT t) (k : 0 ≤ s ∧ s < 4) (l : -1 ≤ a) (m : t.st = 7) : keepR t s a = (9, zT) := by unfold keepR; rw [if_neg (fun q => q h), if_neg (fun q => q k), if_neg (fun q => q l), if_pos m]
theorem keepR_5 {t : Tk} {s a : Int} (h : okT t) (k : 0 ≤ s ∧ s < 4) (l : -1 ≤ a) (m : ¬ t.st = 7) : keepR t s a = (0, setK t s a) := by unfold keepR; rw [if_neg (fun q => q h), if_neg (fun q => q k), if_neg (fun q => q l), if_neg m]
theorem chk_1 {t : Tk} (h : ¬ okT t) : chkE t = 1 := if_neg h
theorem chk_0 {t : Tk} (h : okT t) : chkE t = 0 := if_pos h

section
variable {W : World} {g : Nat} {t : TypeId} {x0 x1 x2 x3 x4 x5 x6 x7 x8 x9 x10 : Value}
def set11 (W : World) (g : Nat) (v0 v1 v2 v3 v4 v5 v6 v7 v8 v9 v10 : Value) : World := ((((((((((W.setCell ⟨g, 0, none⟩ v0).setCell ⟨g, 1, none⟩ v1).setCell ⟨g, 2, none⟩ v2).setCell ⟨g, 3, none⟩ v3).setCell ⟨g, 4, none⟩ v4).setCell ⟨g, 5, none⟩ v5).setCell ⟨g, 6, none⟩ v6).setCell ⟨g, 7, none⟩ v7).setCell ⟨g, 8, none⟩ v8).setCell ⟨g, 9, none⟩ v9).setCell ⟨g, 10, none⟩ v10
theorem bk_set11 (h : Bk W g t #[x0, x1, x2, x3, x4, x5, x6, x7, x8, x9, x10]) (v0 v1 v2 v3 v4 v5 v6 v7 v8 v9 v10 : Value) : Bk (set11 W g v0 v1 v2 v3 v4 v5 v6 v7 v8 v9 v10) g t #[v0, v1, v2, v3, v4, v5, v6, v7, v8, v9, v10] := by
  have a0 : Bk (_) g t #[v0, x1, x2, x3, x4, x5, x6, x7, x8, x9, x10] := h.set_ 0 v0
  have a1 : Bk (_) g t #[v0, v1, x2, x3, x4, x5, x6, x7, x8, x9, x10] := a0.set_ 1 v1
  have a2 : Bk (_) g t #[v0, v1, v2, x3, x4, x5, x6, x7, x8, x9, x10] := a1.set_ 2 v2
  have a3 : Bk (_) g t #[v0, v1, v2, v3, x4, x5, x6, x7, x8, x9, x10] := a2.set_ 3 v3
  have a4 : Bk (_) g t #[v0, v1, v2, v3, v4, x5, x6, x7, x8, x9, x10] := a3.set_ 4 v4
  have a5 : Bk (_) g t #[v0, v1, v2, v3, v4, v5, x6, x7, x8, x9, x10] := a4.set_ 5 v5
  have a6 : Bk (_) g t #[v0, v1, v2, v3, v4, v5, v6, x7, x8, x9, x10] := a5.set_ 6 v6
  have a7 : Bk (_) g t #[v0, v1, v2, v3, v4, v5, v6, v7, x8, x9, x10] := a6.set_ 7 v7
  have a8 : Bk (_) g t #[v0, v1, v2, v3, v4, v5, v6, v7, v8, x9, x10] := a7.set_ 8 v8
  have a9 : Bk (_) g t #[v0, v1, v2, v3, v4, v5, v6, v7, v8, v9, x10] := a8.set_ 9 v9
  have a10 : Bk (_) g t #[v0, v1, v2, v3, v4, v5, v6, v7, v8, v9, v10] := a9.set_ 10 v10
  exact a10
theorem below_set11 {B : Nat} {w : World} (h : Below B w W) (hg : B ≤ g) (v0 v1 v2 v3 v4 v5 v6 v7 v8 v9 v10 : Value) : Below B w (set11 W g v0 v1 v2 v3 v4 v5 v6 v7 v8 v9 v10) :=
  ((((((((((h.setCell (p := ⟨g, 0, none⟩) hg v0).setCell (p := ⟨g, 1, none⟩) hg v1).setCell (p := ⟨g, 2, none⟩) hg v2).setCell (p := ⟨g, 3, none⟩) hg v3).setCell (p := ⟨g, 4, none⟩) hg v4).setCell (p := ⟨g, 5, none⟩) hg v5).setCell (p := ⟨g, 6, none⟩) hg v6).setCell (p := ⟨g, 7, none⟩) hg v7).setCell (p := ⟨g, 8, none⟩) hg v8).setCell (p := ⟨g, 9, none⟩) hg v9).setCell (p := ⟨g, 10, none⟩) hg v10
theorem far_set11 {k : Nat} {cs : Array Value} {u : TypeId} (h : Bk W k u cs) (hne : k ≠ g) (v0 v1 v2 v3 v4 v5 v6 v7 v8 v9 v10 : Value) : Bk (set11 W g v0 v1 v2 v3 v4 v5 v6 v7 v8 v9 v10) k u cs :=
  ((((((((((h.far (p := ⟨g, 0, none⟩) hne v0).far (p := ⟨g, 1, none⟩) hne v1).far (p := ⟨g, 2, none⟩) hne v2).far (p := ⟨g, 3, none⟩) hne v3).far (p := ⟨g, 4, none⟩) hne v4).far (p := ⟨g, 5, none⟩) hne v5).far (p := ⟨g, 6, none⟩) hne v6).far (p := ⟨g, 7, none⟩) hne v7).far (p := ⟨g, 8, none⟩) hne v8).far (p := ⟨g, 9, none⟩) hne v9).far (p := ⟨g, 10, none⟩) hne v10
end

end Go.Proofs.YtfhlligcbpnkkaaDoor

/-
  Small lemmas on blocks of three cells, and of how the first variables of a function lie. Over no program.
-/
namespace Go.Proofs.YtfhlligcbpnkkaaDoor
open Go.RowKit

section
variable {w W : World} {g : Nat} {t : TypeId} {c0 c1 c2 : Value}
theorem Bk.c3 (h : Bk w g t #[c0, c1, c2]) : w.cell? ⟨g, 0, none⟩ = some c0 ∧ w.cell? ⟨g, 1, none⟩ = some c1 ∧ w.cell? ⟨g, 2, none⟩ = some c2 := ⟨h.cell 0, h.cell 1, h.cell 2⟩
theorem Bk.f3 {cs : Array Value} (h : Bk w g t cs) : w.frozen? ⟨g, 0, none⟩ = false ∧ w.frozen? ⟨g, 1, none⟩ = false ∧ w.frozen? ⟨g, 2, none⟩ = false := ⟨h.frozen 0, h.frozen 1, h.frozen 2⟩
def set3 (W : World) (g : Nat) (v0 v1 v2 : Value) : World := ((W.setCell ⟨g, 0, none⟩ v0).setCell ⟨g, 1, none⟩ v1).setCell ⟨g, 2, none⟩ v2
theorem bk_set3 (h : Bk W g t #[c0, c1, c2]) (v0 v1 v2 : Value) : Bk (set3 W g v0 v1 v2) g t #[v0, v1, v2] := by
  have a0 : Bk (_) g t #[v0, c1, c2] := h.set_ 0 v0
  have a1 : Bk (_) g t #[v0, v1, c2] := a0.set_ 1 v1
  have a2 : Bk (_) g t #[v0, v1, v2] := a1.set_ 2 v2
  exact a2
theorem below_set3 {B : Nat} (h : Below B w W) (hg : B ≤ g) (v0 v1 v2 : Value) : Below B w (set3 W g v0 v1 v2) :=
  ((h.setCell (p := ⟨g, 0, none⟩) hg v0).setCell (p := ⟨g, 1, none⟩) hg v1).setCell (p := ⟨g, 2, none⟩) hg v2
theorem far_set3 {k : Nat} {cs : Array Value} {u : TypeId} (h : Bk W k u cs) (hne : k ≠ g) (v0 v1 v2 : Value) : Bk (set3 W g v0 v1 v2) k u cs :=
  ((h.far (p := ⟨g, 0, none⟩) hne v0).far (p := ⟨g, 1, none⟩) hne v1).far (p := ⟨g, 2, none⟩) hne v2
end

theorem lies1 (w : World) (x : Array Value) (t : TypeId) : Bk (w.alloc (.cells x t)) w.heap.size t x ∧ Below w.heap.size w (w.alloc (.cells x t)) := ⟨Bk.new w t x, (Below.refl w.heap.size w).alloc (Nat.le_refl _) _⟩
theorem lies3 (w : World) (x y z : Array Value) (t u v : TypeId) :
    Bk (((w.alloc (.cells x t)).alloc (.cells y u)).alloc (.cells z v)) w.heap.size t x ∧ Bk (((w.alloc (.cells x t)).alloc (.cells y u)).alloc (.cells z v)) (w.heap.size + 1) u y ∧
    Bk (((w.alloc (.cells x t)).alloc (.cells y u)).alloc (.cells z v)) (w.heap.size + 1 + 1) v z ∧ Below w.heap.size w (((w.alloc (.cells x t)).alloc (.cells y u)).alloc (.cells z v)) := by
  obtain ⟨h1, h2, h3⟩ := lies2 w x y t u
  refine ⟨h1.alloc _, h2.alloc _, ?_, h3.alloc h3.size _⟩
  have := Bk.new ((w.alloc (.cells x t)).alloc (.cells y u)) v z
  simpa using this

end Go.Proofs.YtfhlligcbpnkkaaDoor

/-
  Contracts of the smallest functions of layer 4: a number within bounds, and whether an instruction may be; the program's and the document's.
-/
namespace Go.Proofs.YtfhlligcbpnkkaaDoor
open Go.RowKit

/-- A number is within bounds: a word that the walk does not open. -/
def inB (n a b : Int) : Bool := decide (a ≤ n ∧ n ≤ b)

theorem within_any (n a b : Int) (w : World) : Calls Tryd.prog 48 #[.int .i64 n, .int .i64 a, .int .i64 b] w fun e w' => e = .returned (.bool (inB n a b)) ∧ w = w' := by
  by_cases h1 : a ≤ n
  · have H : Hid (decide (n ≤ b) = inB n a b) := Lib.hid (by simp [inB, h1])
    go_enter Tryd.func48, Tryd.ntmps48
    go_wp2
    go_ret
    exact ⟨ret_bool H.out, rfl⟩
  · have H : Hid (false = inB n a b) := Lib.hid (by simp [inB, h1])
    go_enter Tryd.func48, Tryd.ntmps48
    go_wp2
    go_ret
    exact ⟨ret_bool H.out, rfl⟩

theorem rin_any (n a b : Int) (w : World) : Calls Tryd.prog 55 #[.int .i64 n, .int .i64 a, .int .i64 b] w fun e w' => e = .returned (.bool (inB n a b)) ∧ w = w' := by
  by_cases h1 : a ≤ n
  · have H : Hid (decide (n ≤ b) = inB n a b) := Lib.hid (by simp [inB, h1])
    go_enter Tryd.func55, Tryd.ntmps55
    go_wp2
    go_ret
    exact ⟨ret_bool H.out, rfl⟩
  · have H : Hid (false = inB n a b) := Lib.hid (by simp [inB, h1])
    go_enter Tryd.func55, Tryd.ntmps55
    go_wp2
    go_ret
    exact ⟨ret_bool H.out, rfl⟩

theorem may_is1 (a b : Int) : mayB (1, a, b) = (inB a 1 100 && (b == 0)) := by
  rw [Bool.eq_iff_iff]; simp [mayB, inB]; try omega

theorem may_is2 (a b : Int) : mayB (2, a, b) = (inB a 0 15 && inB b 0 3) := by
  rw [Bool.eq_iff_iff]; simp [mayB, inB]; try omega

theorem may_is3 (a b : Int) : mayB (3, a, b) = ((a == 0) && (b == 0)) := by
  rw [Bool.eq_iff_iff]; simp [mayB]

theorem may_is4 (a b : Int) : mayB (4, a, b) = (inB a 1 1000 && (b == 0)) := by
  rw [Bool.eq_iff_iff]; simp [mayB, inB]; try omega

theorem may_is5 (a b : Int) : mayB (5, a, b) = (inB a 0 15 && (b == 0)) := by
  rw [Bool.eq_iff_iff]; simp [mayB, inB]; try omega

theorem may_is6 (a b : Int) : mayB (6, a, b) = (inB a 0 3 && (b == 0)) := by
  rw [Bool.eq_iff_iff]; simp [mayB, inB]; try omega

theorem may_is7 (a b : Int) : mayB (7, a, b) = (inB a 0 7 && (b == 0)) := by
  rw [Bool.eq_iff_iff]; simp [mayB, inB]; try omega

theorem may_is8 (a b : Int) : mayB (8, a, b) = (inB a 0 7 && (b == 0)) := by
  rw [Bool.eq_iff_iff]; simp [mayB, inB]; try omega

theorem may_is9 (a b : Int) : mayB (9, a, b) = ((a == 0) && (b == 0)) := by
  rw [Bool.eq_iff_iff]; simp [mayB]

theorem may_out {o a b : Int} (h : o < 1 ∨ 9 < o) : mayB (o, a, b) = false := by
  unfold mayB
  exact decide_eq_false (by simp only []; omega)

set_option maxHeartbeats 1000000 in
theorem may1 (a b : Int) (w : World) : Calls Tryd.prog 40 #[.agg #[.int .i64 1, .int .i64 a, .int .i64 b]] w (RetB (.bool (mayB (1, a, b))) w) := by
  go_enter Tryd.func40, Tryd.ntmps40
  go_wp2_with (go_at_call 48; refine (within_any _ _ _ _).mono ?_; rintro e w' ⟨rfl, rfl⟩)
  all_goals
    go_ret
    exact RetB.of (ret_bool (by rw [may_is1]; simp [*])) ((Below.refl _ _).alloc (Nat.le_refl _) _)

set_option maxHeartbeats 1000000 in
theorem may2 (a b : Int) (w : World) : Calls Tryd.prog 40 #[.agg #[.int .i64 2, .int .i64 a, .int .i64 b]] w (RetB (.bool (mayB (2, a, b))) w) := by
  go_enter Tryd.func40, Tryd.ntmps40
  go_wp2_with (go_at_call 48; refine (within_any _ _ _ _).mono ?_; rintro e w' ⟨rfl, rfl⟩)
  all_goals
    go_ret
    exact RetB.of (ret_bool (by rw [may_is2]; simp [*])) ((Below.refl _ _).alloc (Nat.le_refl _) _)

set_option maxHeartbeats 1000000 in
theorem may3 (a b : Int) (w : World) : Calls Tryd.prog 40 #[.agg #[.int .i64 3, .int .i64 a, .int .i64 b]] w (RetB (.bool (mayB (3, a, b))) w) := by
  go_enter Tryd.func40, Tryd.ntmps40
  go_wp2_with (go_at_call 48; refine (within_any _ _ _ _).mono ?_; rintro e w' ⟨rfl, rfl⟩)
  all_goals
    go_ret
    exact RetB.of (ret_bool (by rw [may_is3]; simp [*])) ((Below.refl _ _).alloc (Nat.le_refl _) _)

set_option maxHeartbeats 1000000 in
theorem may4 (a b : Int) (w : World) : Calls Tryd.prog 40 #[.agg #[.int .i64 4, .int .i64 a, .int .i64 b]] w (RetB (.bool (mayB (4, a, b))) w) := by
  go_enter Tryd.func40, Tryd.ntmps40
  go_wp2_with (go_at_call 48; refine (within_any _ _ _ _).mono ?_; rintro e w' ⟨rfl, rfl⟩)
  all_goals
    go_ret
    exact RetB.of (ret_bool (by rw [may_is4]; simp [*])) ((Below.refl _ _).alloc (Nat.le_refl _) _)

set_option maxHeartbeats 1000000 in
theorem may5 (a b : Int) (w : World) : Calls Tryd.prog 40 #[.agg #[.int .i64 5, .int .i64 a, .int .i64 b]] w (RetB (.bool (mayB (5, a, b))) w) := by
  go_enter Tryd.func40, Tryd.ntmps40
  go_wp2_with (go_at_call 48; refine (within_any _ _ _ _).mono ?_; rintro e w' ⟨rfl, rfl⟩)
  all_goals
    go_ret
    exact RetB.of (ret_bool (by rw [may_is5]; simp [*])) ((Below.refl _ _).alloc (Nat.le_refl _) _)

set_option maxHeartbeats 1000000 in
theorem may6 (a b : Int) (w : World) : Calls Tryd.prog 40 #[.agg #[.int .i64 6, .int .i64 a, .int .i64 b]] w (RetB (.bool (mayB (6, a, b))) w) := by
  go_enter Tryd.func40, Tryd.ntmps40
  go_wp2_with (go_at_call 48; refine (within_any _ _ _ _).mono ?_; rintro e w' ⟨rfl, rfl⟩)
  all_goals
    go_ret
    exact RetB.of (ret_bool (by rw [may_is6]; simp [*])) ((Below.refl _ _).alloc (Nat.le_refl _) _)

set_option maxHeartbeats 1000000 in
theorem may7 (a b : Int) (w : World) : Calls Tryd.prog 40 #[.agg #[.int .i64 7, .int .i64 a, .int .i64 b]] w (RetB (.bool (mayB (7, a, b))) w) := by
  go_enter Tryd.func40, Tryd.ntmps40
  go_wp2_with (go_at_call 48; refine (within_any _ _ _ _).mono ?_; rintro e w' ⟨rfl, rfl⟩)
  all_goals
    go_ret
    exact RetB.of (ret_bool (by rw [may_is7]; simp [*])) ((Below.refl _ _).alloc (Nat.le_refl _) _)

set_option maxHeartbeats 1000000 in
theorem may8 (a b : Int) (w : World) : Calls Tryd.prog 40 #[.agg #[.int .i64 8, .int .i64 a, .int .i64 b]] w (RetB (.bool (mayB (8, a, b))) w) := by
  go_enter Tryd.func40, Tryd.ntmps40
  go_wp2_with (go_at_call 48; refine (within_any _ _ _ _).mono ?_; rintro e w' ⟨rfl, rfl⟩)
  all_goals
    go_ret
    exact RetB.of (ret_bool (by rw [may_is8]; simp [*])) ((Below.refl _ _).alloc (Nat.le_refl _) _)

set_option maxHeartbeats 1000000 in
theorem may9 (a b : Int) (w : World) : Calls Tryd.prog 40 #[.agg #[.int .i64 9, .int .i64 a, .int .i64 b]] w (RetB (.bool (mayB (9, a, b))) w) := by
  go_enter Tryd.func40, Tryd.ntmps40
  go_wp2_with (go_at_call 48; refine (within_any _ _ _ _).mono ?_; rintro e w' ⟨rfl, rfl⟩)
  all_goals
    go_ret
    exact RetB.of (ret_bool (by rw [may_is9]; simp [*])) ((Below.refl _ _).alloc (Nat.le_refl _) _)

set_option maxHeartbeats 1000000 in
theorem may0 (o a b : Int) (w : World) (h : o < 1 ∨ 9 < o) : Calls Tryd.prog 40 #[.agg #[.int .i64 o, .int .i64 a, .int .i64 b]] w (RetB (.bool (mayB (o, a, b))) w) := by
  have H := Lib.hid (may_out (a := a) (b := b) h)
  have h1 : (o == 1) = false := by simp; omega
  have h2 : (o == 2) = false := by simp; omega
  have h3 : (o == 3) = false := by simp; omega
  have h4 : (o == 4) = false := by simp; omega
  have h5 : (o == 5) = false := by simp; omega
  have h6 : (o == 6) = false := by simp; omega
  have h7 : (o == 7) = false := by simp; omega
  have h8 : (o == 8) = false := by simp; omega
  have h9 : (o == 9) = false := by simp; omega
  clear h
  go_enter Tryd.func40, Tryd.ntmps40
  go_wp2_with (go_at_call 48; refine (within_any _ _ _ _).mono ?_; rintro e w' ⟨rfl, rfl⟩)
  all_goals
    go_ret
    exact RetB.of (ret_bool (by rw [H.out])) ((Below.refl _ _).alloc (Nat.le_refl _) _)

theorem may_any (o a b : Int) (w : World) : Calls Tryd.prog 40 #[.agg #[.int .i64 o, .int .i64 a, .int .i64 b]] w (RetB (.bool (mayB (o, a, b))) w) := by
  have h : (o < 1 ∨ 9 < o) ∨ o = 1 ∨ o = 2 ∨ o = 3 ∨ o = 4 ∨ o = 5 ∨ o = 6 ∨ o = 7 ∨ o = 8 ∨ o = 9 := by omega
  rcases h with h | rfl | rfl | rfl | rfl | rfl | rfl | rfl | rfl | rfl
  · exact may0 o a b w h
  · exact may1 a b w
  · exact may2 a b w
  · exact may3 a b w
  · exact may4 a b w
  · exact may5 a b w
  · exact may6 a b w
  · exact may7 a b w
  · exact may8 a b w
  · exact may9 a b w

set_option maxHeartbeats 1000000 in
theorem rmay1 (a b : Int) (w : World) : Calls Tryd.prog 45 #[.agg #[.int .i64 1, .int .i64 a, .int .i64 b]] w (RetB (.bool (mayB (1, a, b))) w) := by
  go_enter Tryd.func45, Tryd.ntmps45
  go_wp2_with (go_at_call 55; refine (rin_any _ _ _ _).mono ?_; rintro e w' ⟨rfl, rfl⟩)
  all_goals
    go_ret
    exact RetB.of (ret_bool (by rw [may_is1]; simp [*])) ((Below.refl _ _).alloc (Nat.le_refl _) _)

set_option maxHeartbeats 1000000 in
theorem rmay2 (a b : Int) (w : World) : Calls Tryd.prog 45 #[.agg #[.int .i64 2, .int .i64 a, .int .i64 b]] w (RetB (.bool (mayB (2, a, b))) w) := by
  go_enter Tryd.func45, Tryd.ntmps45
  go_wp2_with (go_at_call 55; refine (rin_any _ _ _ _).mono ?_; rintro e w' ⟨rfl, rfl⟩)
  all_goals
    go_ret
    exact RetB.of (ret_bool (by rw [may_is2]; simp [*])) ((Below.refl _ _).alloc (Nat.le_refl _) _)

set_option maxHeartbeats 1000000 in
theorem rmay3 (a b : Int) (w : World) : Calls Tryd.prog 45 #[.agg #[.int .i64 3, .int .i64 a, .int .i64 b]] w (RetB (.bool (mayB (3, a, b))) w) := by
  go_enter Tryd.func45, Tryd.ntmps45
  go_wp2_with (go_at_call 55; refine (rin_any _ _ _ _).mono ?_; rintro e w' ⟨rfl, rfl⟩)
  all_goals
    go_ret
    exact RetB.of (ret_bool (by rw [may_is3]; simp [*])) ((Below.refl _ _).alloc (Nat.le_refl _) _)

set_option maxHeartbeats 1000000 in
theorem rmay4 (a b : Int) (w : World) : Calls Tryd.prog 45 #[.agg #[.int .i64 4, .int .i64 a, .int .i64 b]] w (RetB (.bool (mayB (4, a, b))) w) := by
  go_enter Tryd.func45, Tryd.ntmps45
  go_wp2_with (go_at_call 55; refine (rin_any _ _ _ _).mono ?_; rintro e w' ⟨rfl, rfl⟩)
  all_goals
    go_ret
    exact RetB.of (ret_bool (by rw [may_is4]; simp [*])) ((Below.refl _ _).alloc (Nat.le_refl _) _)

set_option maxHeartbeats 1000000 in
theorem rmay5 (a b : Int) (w : World) : Calls Tryd.prog 45 #[.agg #[.int .i64 5, .int .i64 a, .int .i64 b]] w (RetB (.bool (mayB (5, a, b))) w) := by
  go_enter Tryd.func45, Tryd.ntmps45
  go_wp2_with (go_at_call 55; refine (rin_any _ _ _ _).mono ?_; rintro e w' ⟨rfl, rfl⟩)
  all_goals
    go_ret
    exact RetB.of (ret_bool (by rw [may_is5]; simp [*])) ((Below.refl _ _).alloc (Nat.le_refl _) _)

set_option maxHeartbeats 1000000 in
theorem rmay6 (a b : Int) (w : World) : Calls Tryd.prog 45 #[.agg #[.int .i64 6, .int .i64 a, .int .i64 b]] w (RetB (.bool (mayB (6, a, b))) w) := by
  go_enter Tryd.func45, Tryd.ntmps45
  go_wp2_with (go_at_call 55; refine (rin_any _ _ _ _).mono ?_; rintro e w' ⟨rfl, rfl⟩)
  all_goals
    go_ret
    exact RetB.of (ret_bool (by rw [may_is6]; simp [*])) ((Below.refl _ _).alloc (Nat.le_refl _) _)

set_option maxHeartbeats 1000000 in
theorem rmay7 (a b : Int) (w : World) : Calls Tryd.prog 45 #[.agg #[.int .i64 7, .int .i64 a, .int .i64 b]] w (RetB (.bool (mayB (7, a, b))) w) := by
  go_enter Tryd.func45, Tryd.ntmps45
  go_wp2_with (go_at_call 55; refine (rin_any _ _ _ _).mono ?_; rintro e w' ⟨rfl, rfl⟩)
  all_goals
    go_ret
    exact RetB.of (ret_bool (by rw [may_is7]; simp [*])) ((Below.refl _ _).alloc (Nat.le_refl _) _)

set_option maxHeartbeats 1000000 in
theorem rmay8 (a b : Int) (w : World) : Calls Tryd.prog 45 #[.agg #[.int .i64 8, .int .i64 a, .int .i64 b]] w (RetB (.bool (mayB (8, a, b))) w) := by
  go_enter Tryd.func45, Tryd.ntmps45
  go_wp2_with (go_at_call 55; refine (rin_any _ _ _ _).mono ?_; rintro e w' ⟨rfl, rfl⟩)
  all_goals
    go_ret
    exact RetB.of (ret_bool (by rw [may_is8]; simp [*])) ((Below.refl _ _).alloc (Nat.le_refl _) _)

set_option maxHeartbeats 1000000 in
theorem rmay9 (a b : Int) (w : World) : Calls Tryd.prog 45 #[.agg #[.int .i64 9, .int .i64 a, .int .i64 b]] w (RetB (.bool (mayB (9, a, b))) w) := by
  go_enter Tryd.func45, Tryd.ntmps45
  go_wp2_with (go_at_call 55; refine (rin_any _ _ _ _).mono ?_; rintro e w' ⟨rfl, rfl⟩)
  all_goals
    go_ret
    exact RetB.of (ret_bool (by rw [may_is9]; simp [*])) ((Below.refl _ _).alloc (Nat.le_refl _) _)

set_option maxHeartbeats 1000000 in
theorem rmay0 (o a b : Int) (w : World) (h : o < 1 ∨ 9 < o) : Calls Tryd.prog 45 #[.agg #[.int .i64 o, .int .i64 a, .int .i64 b]] w (RetB (.bool (mayB (o, a, b))) w) := by
  have H := Lib.hid (may_out (a := a) (b := b) h)
  have h1 : (o == 1) = false := by simp; omega
  have h2 : (o == 2) = false := by simp; omega
  have h3 : (o == 3) = false := by simp; omega
  have h4 : (o == 4) = false := by simp; omega
  have h5 : (o == 5) = false := by simp; omega
  have h6 : (o == 6) = false := by simp; omega
  have h7 : (o == 7) = false := by simp; omega
  have h8 : (o == 8) = false := by simp; omega
  have h9 : (o == 9) = false := by simp; omega
  clear h
  go_enter Tryd.func45, Tryd.ntmps45
  go_wp2_with (go_at_call 55; refine (rin_any _ _ _ _).mono ?_; rintro e w' ⟨rfl, rfl⟩)
  all_goals
    go_ret
    exact RetB.of (ret_bool (by rw [H.out])) ((Below.refl _ _).alloc (Nat.le_refl _) _)

theorem rmay_any (o a b : Int) (w : World) : Calls Tryd.prog 45 #[.agg #[.int .i64 o, .int .i64 a, .int .i64 b]] w (RetB (.bool (mayB (o, a, b))) w) := by
  have h : (o < 1 ∨ 9 < o) ∨ o = 1 ∨ o = 2 ∨ o = 3 ∨ o = 4 ∨ o = 5 ∨ o = 6 ∨ o = 7 ∨ o = 8 ∨ o = 9 := by omega
  rcases h with h | rfl | rfl | rfl | rfl | rfl | rfl | rfl | rfl | rfl
  · exact rmay0 o a b w h
  · exact rmay1 a b w
  · exact rmay2 a b w
  · exact rmay3 a b w
  · exact rmay4 a b w
  · exact rmay5 a b w
  · exact rmay6 a b w
  · exact rmay7 a b w
  · exact rmay8 a b w
  · exact rmay9 a b w

end Go.Proofs.YtfhlligcbpnkkaaDoor

/-
  Contracts of Check of layer 4: the program's and the document's.
-/
namespace Go.Proofs.YtfhlligcbpnkkaaDoor
open Go.RowKit

/-- The relation of Check's loop. -/
def MayRel (p : List I3) (n : Nat) (w : World) (t : Value) (wr : World) : Prop := ∃ k : Nat, k ≤ n ∧ t = .int .i64 k ∧ (∀ j, j < k → mayB (ith p j) = true) ∧ Below w.heap.size w wr

theorem errP_small {p : List I3} (h : p.length < 1) : errP p = 1 := errP_no (fun h' => by have := h'.1; omega)
theorem errP_big {p : List I3} (h : 32 < p.length) : errP p = 1 := errP_no (fun h' => by have := h'.2.1; omega)
theorem errP_bad {p : List I3} {k : Nat} (hk : k < p.length) (h : mayB (ith p k) = false) : errP p = 1 := errP_no (fun h' => by have := h'.2.2 k hk; rw [h] at this; cases this)

set_option maxHeartbeats 1000000 in
theorem check_any (A : Option Addr) (n c : Nat) (p : List I3) (w : World) (hp : Prog w A n c p) :
    Calls Tryd.prog 28 #[.slice A n c] w (RetB (.int .i64 (errP p)) w) := by
  have HP := Lib.hid hp
  have HN := Lib.hid hp.1
  have hn := Nat.le_trans hp.2.1.1 hp.2.1.2
  clear hp
  by_cases h1 : n < 1
  · have HE := Lib.hid (errP_small (p := p) (by rw [HN.out]; exact h1))
    go_enter Tryd.func28, Tryd.ntmps28
    go_wp2
    go_ret
    rw [HE.out]
    exact RetB.of rfl (Below.refl _ _)
  · by_cases h2 : 32 < n
    · have HE := Lib.hid (errP_big (p := p) (by rw [HN.out]; exact h2))
      go_enter Tryd.func28, Tryd.ntmps28
      go_wp2
      go_ret
      rw [HE.out]
      exact RetB.of rfl (Below.refl _ _)
    · go_enter Tryd.func28, Tryd.ntmps28
      go_wp2
      go_loopw [15] (fun t wr => MayRel p n w t wr) (fun t _ => n - (intOf t).toNat)
      case atStart => exact ⟨0, Nat.zero_le _, rfl, fun j hj => absurd hj (by omega), Below.refl _ _⟩
      case round =>
        obtain ⟨k, hk, rfl, hq, hb⟩ := hrel
        have HQ := Lib.hid hq
        have HB := Lib.hid hb
        clear hq hb
        by_cases hlt : k < n
        · obtain ⟨b, o, rfl, hbl, g0, g1, g2⟩ := (HP.out.below HB.out).at_ hlt
          go_wp2_with fail
          refine (may_any _ _ _ _).mono ?_
          rintro e w1 ⟨rfl, hb1⟩
          have HB1 := Lib.hid (below3 (HB.out.alloc HB.out.size _) hb1)
          clear hb1
          by_cases hx : mayB (jO p k, jA p k, jB p k) = true
          · go_wp2
            go_roundw
            case rel => exact ⟨k + 1, by omega, by go_num, fun j hj => (by
              rcases Nat.lt_or_ge j k with h | h
              · exact HQ.out j h
              · obtain rfl : j = k := by omega
                exact hx), HB1.out⟩
            case measure => simp [intOf]; omega
          · replace hx : mayB (jO p k, jA p k, jB p k) = false := by simpa using hx
            have HE := Lib.hid (errP_bad (p := p) (k := k) (by rw [HN.out]; exact hlt) hx)
            go_wp2
            go_ret
            rw [HE.out]
            exact RetB.of rfl HB1.out
        · have HE := Lib.hid (errP_ok (p := p) ⟨by rw [HN.out]; omega, by rw [HN.out]; omega, fun j hj => HQ.out j (by rw [HN.out] at hj; omega)⟩)
          go_wp2
          go_ret
          rw [HE.out]
          exact RetB.of rfl HB.out

set_option maxHeartbeats 1000000 in
theorem rcheck_any (A : Option Addr) (n c : Nat) (p : List I3) (w : World) (hp : Prog w A n c p) :
    Calls Tryd.prog 35 #[.slice A n c] w (RetB (.int .i64 (errP p)) w) := by
  have HP := Lib.hid hp
  have HN := Lib.hid hp.1
  have hn := Nat.le_trans hp.2.1.1 hp.2.1.2
  clear hp
  by_cases h1 : n < 1
  · have HE := Lib.hid (errP_small (p := p) (by rw [HN.out]; exact h1))
    go_enter Tryd.func35, Tryd.ntmps35
    go_wp2
    go_ret
    rw [HE.out]
    exact RetB.of rfl (Below.refl _ _)
  · by_cases h2 : 32 < n
    · have HE := Lib.hid (errP_big (p := p) (by rw [HN.out]; exact h2))
      go_enter Tryd.func35, Tryd.ntmps35
      go_wp2
      go_ret
      rw [HE.out]
      exact RetB.of rfl (Below.refl _ _)
    · go_enter Tryd.func35, Tryd.ntmps35
      go_wp2
      go_loopw [15] (fun t wr => MayRel p n w t wr) (fun t _ => n - (intOf t).toNat)
      case atStart => exact ⟨0, Nat.zero_le _, rfl, fun j hj => absurd hj (by omega), Below.refl _ _⟩
      case round =>
        obtain ⟨k, hk, rfl, hq, hb⟩ := hrel
        have HQ := Lib.hid hq
        have HB := Lib.hid hb
        clear hq hb
        by_cases hlt : k < n
        · obtain ⟨b, o, rfl, hbl, g0, g1, g2⟩ := (HP.out.below HB.out).at_ hlt
          go_wp2_with fail
          refine (rmay_any _ _ _ _).mono ?_
          rintro e w1 ⟨rfl, hb1⟩
          have HB1 := Lib.hid (below3 (HB.out.alloc HB.out.size _) hb1)
          clear hb1
          by_cases hx : mayB (jO p k, jA p k, jB p k) = true
          · go_wp2
            go_roundw
            case rel => exact ⟨k + 1, by omega, by go_num, fun j hj => (by
              rcases Nat.lt_or_ge j k with h | h
              · exact HQ.out j h
              · obtain rfl : j = k := by omega
                exact hx), HB1.out⟩
            case measure => simp [intOf]; omega
          · replace hx : mayB (jO p k, jA p k, jB p k) = false := by simpa using hx
            have HE := Lib.hid (errP_bad (p := p) (k := k) (by rw [HN.out]; exact hlt) hx)
            go_wp2
            go_ret
            rw [HE.out]
            exact RetB.of rfl HB1.out
        · have HE := Lib.hid (errP_ok (p := p) ⟨by rw [HN.out]; omega, by rw [HN.out]; omega, fun j hj => HQ.out j (by rw [HN.out] at hj; omega)⟩)
          go_wp2
          go_ret
          rw [HE.out]
          exact RetB.of rfl HB.out

end Go.Proofs.YtfhlligcbpnkkaaDoor

/-
  Contracts of the functions of layer 4 that look for an instruction: the first exit, the first one that spawns what is not there, a program up to its exit; the program's and the document's.
-/
namespace Go.Proofs.YtfhlligcbpnkkaaDoor
open Go.RowKit

theorem isExit_any (o a b : Int) (w : World) : Calls Tryd.prog 42 #[.agg #[.int .i64 o, .int .i64 a, .int .i64 b]] w (RetB (.bool (o == 9)) w) := by
  go_enter Tryd.func42, Tryd.ntmps42
  go_wp2
  go_ret
  exact RetB.of rfl ((Below.refl _ _).alloc (Nat.le_refl _) _)

/-- What the closure of CheckAll asks: does it spawn what is not there? -/
def wild (N : Nat) (o a : Int) : Bool := decide (o = 2 ∧ (N : Int) ≤ a)

theorem isWild_any (g : Nat) (L : Option Addr) (N c : Nat) (o a b : Int) (w : World) (hk : Bk w g 22 #[.slice L N c]) :
    Calls Tryd.prog 30 #[.agg #[.int .i64 o, .int .i64 a, .int .i64 b], .pointer (some ⟨g, 0, none⟩)] w (RetB (.bool (wild N o a)) w) := by
  have c0 : (w.alloc (.cells #[.int .i64 o, .int .i64 a, .int .i64 b] 50)).cell? ⟨g, 0, none⟩ = some (.slice L N c) := ((hk.alloc _).cell 0).trans rfl
  clear hk
  by_cases h : o = 2
  · subst h
    have H : Hid (decide ((N : Int) ≤ a) = wild N 2 a) := Lib.hid (by simp [wild])
    go_enter Tryd.func30, Tryd.ntmps30
    go_wp2
    go_ret
    exact RetB.of (ret_bool H.out) ((Below.refl _ _).alloc (Nat.le_refl _) _)
  · have H : Hid (false = wild N o a) := Lib.hid (by simp [wild, h])
    have h2 : (o == 2) = false := by simpa using h
    clear h
    go_enter Tryd.func30, Tryd.ntmps30
    go_wp2
    go_ret
    exact RetB.of (ret_bool H.out) ((Below.refl _ _).alloc (Nat.le_refl _) _)

/-- What IndexFunc hands back: the first one of which the question comes to yes, or -1. -/
def FirstIs (q : Nat → Bool) (n : Nat) (w : World) (e : Ending) (w' : World) : Prop :=
  ∃ r : Int, e = .returned (.int .i64 r) ∧ ((r = -1 ∧ ∀ j, j < n → q j = false) ∨ ∃ k : Nat, k < n ∧ r = k ∧ q k = true ∧ ∀ j, j < k → q j = false) ∧ Below w.heap.size w w'

def qExit (p : List I3) (j : Nat) : Bool := jO p j == 9
def qWild (N : Nat) (p : List I3) (j : Nat) : Bool := wild N (jO p j) (jA p j)

/-- The relation of IndexFunc's loop. -/
def FindRel (q : Nat → Bool) (n : Nat) (w : World) (t : Value) (wr : World) : Prop := ∃ k : Nat, k ≤ n ∧ t = .int .i64 k ∧ (∀ j, j < k → q j = false) ∧ Below w.heap.size w wr

theorem bool_no {b : Bool} (h : ¬ b = true) : b = false := by cases b <;> simp_all

set_option maxHeartbeats 1000000 in
theorem index_exit (A : Option Addr) (n c : Nat) (p : List I3) (w : World) (hp : Prog w A n c p) :
    Calls Tryd.prog 41 #[.slice A n c, .func (.func 42) #[] #[]] w (FirstIs (qExit p) n w) := by
  have HP := Lib.hid hp
  have hn := Nat.le_trans hp.2.1.1 hp.2.1.2
  clear hp
  go_enter Tryd.func41, Tryd.ntmps41
  go_wp2
  go_loopw [8] (fun t wr => FindRel (qExit p) n w t wr) (fun t _ => n - (intOf t).toNat)
  case atStart => exact ⟨0, Nat.zero_le _, rfl, fun j hj => absurd hj (by omega), Below.refl _ _⟩
  case round =>
    obtain ⟨k, hk, rfl, hq, hb⟩ := hrel
    have HQ := Lib.hid hq
    have HB := Lib.hid hb
    clear hq hb
    by_cases hlt : k < n
    · obtain ⟨b, o, rfl, hbl, h0, h1, h2⟩ := (HP.out.below HB.out).at_ hlt
      go_wp2_with fail
      refine (isExit_any _ _ _ _).mono ?_
      rintro e w1 ⟨rfl, hb1⟩
      have HB1 := Lib.hid (below3 HB.out hb1)
      clear hb1
      by_cases hx : (jO p k == 9) = true
      · go_wp2
        go_ret
        exact ⟨k, rfl, .inr ⟨k, hlt, rfl, hx, HQ.out⟩, HB1.out⟩
      · replace hx := bool_no hx
        go_wp2
        go_roundw
        case rel => exact ⟨k + 1, by omega, by go_num, fun j hj => (by
          rcases Nat.lt_or_ge j k with h | h
          · exact HQ.out j h
          · obtain rfl : j = k := by omega
            exact hx), HB1.out⟩
        case measure => simp [intOf]; omega
    · go_wp2
      go_ret
      exact ⟨-1, rfl, .inl ⟨rfl, fun j hj => HQ.out j (by omega)⟩, HB.out⟩

set_option maxHeartbeats 1000000 in
theorem index_wild (g : Nat) (L : Option Addr) (N d : Nat) (A : Option Addr) (n c : Nat) (p : List I3) (w : World) (hp : Prog w A n c p) (hk : Bk w g 22 #[.slice L N d]) :
    Calls Tryd.prog 41 #[.slice A n c, .func (.func 30) #[] #[.pointer (some ⟨g, 0, none⟩)]] w (FirstIs (qWild N p) n w) := by
  have HP := Lib.hid hp
  have HK := Lib.hid hk
  have hn := Nat.le_trans hp.2.1.1 hp.2.1.2
  clear hp hk
  go_enter Tryd.func41, Tryd.ntmps41
  go_wp2
  go_loopw [8] (fun t wr => FindRel (qWild N p) n w t wr) (fun t _ => n - (intOf t).toNat)
  case atStart => exact ⟨0, Nat.zero_le _, rfl, fun j hj => absurd hj (by omega), Below.refl _ _⟩
  case round =>
    obtain ⟨k, hk, rfl, hq, hb⟩ := hrel
    have HQ := Lib.hid hq
    have HB := Lib.hid hb
    clear hq hb
    by_cases hlt : k < n
    · obtain ⟨b, o, rfl, hbl, h0, h1, h2⟩ := (HP.out.below HB.out).at_ hlt
      go_wp2_with fail
      refine (isWild_any g L N d _ _ _ _ (HK.out.below HB.out HK.out.lt)).mono ?_
      rintro e w1 ⟨rfl, hb1⟩
      have HB1 := Lib.hid (below3 HB.out hb1)
      clear hb1
      by_cases hx : wild N (jO p k) (jA p k) = true
      · go_wp2
        go_ret
        exact ⟨k, rfl, .inr ⟨k, hlt, rfl, hx, HQ.out⟩, HB1.out⟩
      · replace hx := bool_no hx
        go_wp2
        go_roundw
        case rel => exact ⟨k + 1, by omega, by go_num, fun j hj => (by
          rcases Nat.lt_or_ge j k with h | h
          · exact HQ.out j h
          · obtain rfl : j = k := by omega
            exact hx), HB1.out⟩
        case measure => simp [intOf]; omega
    · go_wp2
      go_ret
      exact ⟨-1, rfl, .inl ⟨rfl, fun j hj => HQ.out j (by omega)⟩, HB.out⟩

/-- ContainsFunc: is there one? -/
def SomeIs (q : Nat → Bool) (n : Nat) (w : World) (e : Ending) (w' : World) : Prop :=
  ∃ r : Bool, e = .returned (.bool r) ∧ (r = true → ∃ k, k < n ∧ q k = true) ∧ (r = false → ∀ j, j < n → q j = false) ∧ Below w.heap.size w w'

theorem contains_wild (g : Nat) (L : Option Addr) (N d : Nat) (A : Option Addr) (n c : Nat) (p : List I3) (w : World) (hp : Prog w A n c p) (hk : Bk w g 22 #[.slice L N d]) :
    Calls Tryd.prog 29 #[.slice A n c, .func (.func 30) #[] #[.pointer (some ⟨g, 0, none⟩)]] w (SomeIs (qWild N p) n w) := by
  go_enter Tryd.func29, Tryd.ntmps29
  go_wp2_with fail
  refine (index_wild g L N d A n c p w hp hk).mono ?_
  rintro e w1 ⟨r, rfl, hr, hb1⟩
  have HR := Lib.hid hr
  have HB := Lib.hid hb1
  clear hr hb1
  go_wp2
  go_ret
  refine ⟨decide (0 ≤ r), rfl, fun h => ?_, fun h => ?_, HB.out⟩
  · have h := of_decide_eq_true h
    rcases HR.out with ⟨h1, _⟩ | ⟨k, hk, h1, h2, _⟩
    · omega
    · exact ⟨k, hk, h2⟩
  · have h := of_decide_eq_false h
    rcases HR.out with ⟨_, h1⟩ | ⟨k, hk, h1, h2, _⟩
    · exact h1
    · omega

theorem toExit_any (A : Option Addr) (n c : Nat) (p : List I3) (w : World) (hp : Prog w A n c p) :
    Calls Tryd.prog 31 #[.slice A n c] w (RetB (.slice A (runLen p) c) w) := by
  go_enter Tryd.func31, Tryd.ntmps31
  go_wp2_with fail
  refine (index_exit A n c p w hp).mono ?_
  rintro e w1 ⟨r, rfl, hr, hb1⟩
  have HB := Lib.hid hb1
  have hn := Nat.le_trans hp.2.1.1 hp.2.1.2
  have hl := hp.1
  clear hb1
  rcases hr with ⟨rfl, hr⟩ | ⟨k, hk, rfl, h1, h2⟩
  · have H : Hid (runLen p = n) := Lib.hid (by rw [runLen_none (fun j hj => by have := hr j (by omega); simpa [qExit] using this), hl])
    clear hr hl
    go_wp2
    go_ret
    rw [H.out]
    exact RetB.of rfl HB.out
  · have H : Hid (runLen p = k + 1) := Lib.hid (runLen_exit (by omega) (fun j hj => by have := h2 j hj; simpa [qExit] using this) (by simpa [qExit] using h1))
    have hc1 : (k : Int) + 1 ≤ (c : Int) := by have := hp.2.1.1; omega
    have hc2 : (0 : Int) ≤ (k : Int) + 1 := by omega
    clear h1 h2 hl
    go_wp2
    go_ret
    rw [H.out]
    exact RetB.of rfl HB.out

end Go.Proofs.YtfhlligcbpnkkaaDoor

/-
  The law package's own check of layer 4's example: two programs, the first of which spawns the second one twice.
-/
import Derived.Test.YtcbgmhbmdklbfaaTasks
namespace Go.Proofs.Ytcbgmhbmdklbfaa
open Go.RowKit

def exL : List (List I3) := [[(2, 1, 0), (2, 1, 1)], [(1, 2, 0)]]

theorem exL_ok : okL exL := by
  refine ⟨by decide, by decide, fun j hj => ?_⟩
  match j, hj with
  | 0, _ =>
    refine ⟨⟨by decide, by decide, fun i hi => ?_⟩, fun k hk _ => ?_⟩
    · match i, hi with
      | 0, _ => rfl
      | 1, _ => rfl
    · match k, hk with
      | 0, _ => decide
      | 1, _ => decide
  | 1, _ =>
    refine ⟨⟨by decide, by decide, fun i hi => ?_⟩, fun k hk h => ?_⟩
    · match i, hi with
      | 0, _ => rfl
    · match k, hk with
      | 0, _ => cases h

theorem exL_tasks : tasksA exL 0 = (3, 0) := tasksA_ok (i := 0) (c := 3) exL_ok (by decide) rfl (by decide)

theorem prog_of {w : World} {g n : Nat} {p : List I3} (h : Bk w g 42 (cellsP p).toArray) (hn : p.length = n) (hf : ∀ x ∈ p, FitI x) (hl : n ≤ 9223372036854775807) : Prog w (some ⟨g, 0, none⟩) n n p := by
  refine ⟨hn, ⟨Nat.le_refl _, hl⟩, hf, fun _ => ⟨g, 0, rfl, h.lt, fun j hj => ?_⟩⟩
  obtain ⟨d0, d1, d2⟩ := cellsP_at p (j := j) (by omega)
  rw [Nat.zero_add, h.cell, h.cell, h.cell]
  exact ⟨by simpa using d0, by simpa using d1, by simpa using d2⟩

theorem ex_prgs (w : World) : Prgs (((w.alloc (.cells #[.int .i64 2, .int .i64 1, .int .i64 0, .int .i64 2, .int .i64 1, .int .i64 1] 42)).alloc (.cells #[.int .i64 1, .int .i64 2, .int .i64 0] 42)).alloc
    (.cells #[.slice (some ⟨w.heap.size, 0, none⟩) 2 2, .slice (some ⟨w.heap.size + 1, 0, none⟩) 1 1] 25)) (some ⟨w.heap.size + 2, 0, none⟩) 2 exL := by
  have k1 := Bk.new w 42 (cellsP [(2, 1, 0), (2, 1, 1)]).toArray
  have k2 := Bk.at_ (w := w.alloc (.cells (cellsP [(2, 1, 0), (2, 1, 1)]).toArray 42)) (g := w.heap.size + 1) (by simp) 42 (cellsP [(1, 2, 0)]).toArray
  have k3 := Bk.at_ (w := (w.alloc (.cells (cellsP [(2, 1, 0), (2, 1, 1)]).toArray 42)).alloc (.cells (cellsP [(1, 2, 0)]).toArray 42)) (g := w.heap.size + 2) (by simp) 25 #[.slice (some ⟨w.heap.size, 0, none⟩) 2 2, .slice (some ⟨w.heap.size + 1, 0, none⟩) 1 1]
  have p1 := prog_of (n := 2) ((k1.alloc (.cells (cellsP [(1, 2, 0)]).toArray 42)).alloc (.cells #[.slice (some ⟨w.heap.size, 0, none⟩) 2 2, .slice (some ⟨w.heap.size + 1, 0, none⟩) 1 1] 25)) rfl (by simp [FitI, Fit]) (by omega)
  have p2 := prog_of (n := 1) (k2.alloc (.cells #[.slice (some ⟨w.heap.size, 0, none⟩) 2 2, .slice (some ⟨w.heap.size + 1, 0, none⟩) 1 1] 25)) rfl (by simp [FitI, Fit]) (by omega)
  refine ⟨rfl, by omega, [(some ⟨w.heap.size, 0, none⟩, 2, 2), (some ⟨w.heap.size + 1, 0, none⟩, 1, 1)], ⟨rfl, fun j hj => ?_⟩, fun _ => ⟨w.heap.size + 2, 0, rfl, k3.lt, fun j hj => ?_⟩⟩
  · match j, hj with
    | 0, _ => exact p1
    | 1, _ => exact p2
  · rw [Nat.zero_add]
    refine (k3.cell j).trans ?_
    match j, hj with
    | 0, _ => rfl
    | 1, _ => rfl

theorem live_any (w : World) : Calls Try.prog 10 #[] w (TrueAns w) := by
  have HX := Lib.hid (ex_prgs w)
  have HB := Lib.hid (below3 (below1 w (.cells #[.int .i64 2, .int .i64 1, .int .i64 0, .int .i64 2, .int .i64 1, .int .i64 1] 42)) (below3 (below1 _ (.cells #[.int .i64 1, .int .i64 2, .int .i64 0] 42)) (below1 _ (.cells #[.slice (some ⟨w.heap.size, 0, none⟩) 2 2, .slice (some ⟨w.heap.size + 1, 0, none⟩) 1 1] 25))))
  have HT := Lib.hid exL_tasks
  have HE := Lib.hid (errL_ok exL_ok)
  go_enter Try.func10, Try.ntmps10
  go_wp2_with fail
  refine (tasks_any _ 2 2 exL 0 _ HX.out).mono ?_
  rintro e w1 ⟨he, hb1⟩
  rw [HT.out] at he
  subst he
  have HB1 := Lib.hid (below3 HB.out hb1)
  have HX1 := Lib.hid (HX.out.below hb1)
  clear hb1
  go_wp2_with fail
  refine (checkAll_any _ 2 2 exL _ HX1.out).mono ?_
  rintro e w2 ⟨rfl, hb2⟩
  rw [HE.out]
  have HB2 := Lib.hid (below3 HB1.out hb2)
  clear hb2
  go_wp2
  go_ret
  exact ⟨rfl, HB2.out⟩

end Go.Proofs.Ytcbgmhbmdklbfaa

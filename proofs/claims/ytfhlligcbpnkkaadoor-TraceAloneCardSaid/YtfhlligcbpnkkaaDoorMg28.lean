import Derived.Test.YtfhlligcbpnkkaaDoorMg27
import Derived.Laws.StructEq
import Derived.ChangeKeysEq
import Derived.Test.YtfhlligcbpnkkaaDoorMg15
import Derived.Test.YtfhlligcbpnkkaaDoorMg1
import Derived.Deep.LoopGhost
import Derived.Deep.CutBlock
import Derived.Test.YtfhlligcbpnkkaaDoorMg0
import Derived.Test.YtfhlligcbpnkkaaDoorMg3
import Derived.Deep.Slices
import Derived.Deep.Fields
import Derived.Lib.SmallJoins
import Derived.Test.YtfhlligcbpnkkaaDoorMg11

/-
  Layer 12: tasks held against one another: one that is the same.
-/
namespace Go.Proofs.YtfhlligcbpnkkaaDoor
open Go.RowKit

theorem task_stood : Tryd.prog.stoodInHeld 44 = false := by kernel_rfl
theorem task_guard : Tryd.prog.eqGuardType Tryd.prog.depth 44 = false := by kernel_rfl
theorem info_i64 : ∃ i, Tryd.prog.info? 2 = some i := ⟨_, rfl⟩
theorem cells_i64 : Tryd.prog.cellsOf 2 = 1 := by kernel_rfl
theorem keeps_same (d : Nat) (a b c e : Int) (W : World) : (Op.equalIn (d + 2) 42 (.agg #[.int .i64 a, .int .i64 b, .int .i64 c, .int .i64 e]) (.agg #[.int .i64 a, .int .i64 b, .int .i64 c, .int .i64 e])).run Tryd.prog W = .ok true W := by
  obtain ⟨i, hi⟩ := info_i64
  rw [run_equalIn_array W (d + 1) _ _ Tryd.underlying42 hi, cells_i64]
  have r4 : List.range 4 = [0, 1, 2, 3] := by decide
  simp [r4, Op.eqItems, go_sem, Tryd.underlying2]
theorem task_same (x : Tk) (W : World) : (Op.equalIn 10000 44 (.agg (tc x)) (.agg (tc x))).run Tryd.prog W = .ok true W := by
  unfold tc
  rw [run_equalIn_struct (d := 9999) W 44 _ _ (by simp [Program.fieldsOf, Tryd.underlying44]) task_stood]
  simp [Program.fieldsOf, Tryd.underlying44]
  simp [Op.eqFields, go_sem, keeps_same 9997]
theorem eql_task (x : Tk) (W : World) : (binOp .eql 44 (.agg (tc x)) (.agg (tc x))).run Tryd.prog W = .ok (.bool true) W := by
  rw [run_eql_struct, task_same]; rfl
theorem neq_task (x : Tk) (W : World) : (binOp .neq 44 (.agg (tc x)) (.agg (tc x))).run Tryd.prog W = .ok (.bool false) W := by
  rw [run_neq_struct, task_same]; rfl
theorem guard_task (op : BinOp) (x y : Operand) (a b : Array Value) (W : World) : (eqGuard op 44 x y (.agg a) (.agg b)).run Tryd.prog W = .ok () W := run_eqGuard_agg W op 44 x y a b task_guard

end Go.Proofs.YtfhlligcbpnkkaaDoor

/-
  Layer 18, the document: SameTasks at two slices that read as the same tasks.
-/
namespace Go.Proofs.YtfhlligcbpnkkaaDoor
open Go.RowKit

/-- A task of eleven cells, read. -/
theorem calm_task {ops : Array Oper} {S : World → Prop} {o : Oper} {a : Act} (hw : Region.wanted o (yielded ops a.tmps) = true) (x : Operand) (ho : o.op = .load 44 x) (b k : Nat) (hx : a.eval x = .pointer (some ⟨b, k, none⟩)) {t : Tk}
    (hS : ∀ w, S w → ∀ i, i < 11 → w.cell? ⟨b, k + i, none⟩ = (tc t).toList[i]?) : Calm Tryd.prog ops S o (.agg (tc t)) a :=
  calm_of hw fun w hw' => by
    have h := hS w hw'
    have g0 : w.cell? ⟨b, k, none⟩ = some (.int .i64 t.id) := h 0 (by omega)
    have g1 : w.cell? ⟨b, k + 1, none⟩ = some (.int .i64 t.tn) := h 1 (by omega)
    have g2 : w.cell? ⟨b, k + 2, none⟩ = some (.int .i64 t.pg) := h 2 (by omega)
    have g3 : w.cell? ⟨b, k + 3, none⟩ = some (.int .i64 t.pc) := h 3 (by omega)
    have g4 : w.cell? ⟨b, k + 4, none⟩ = some (.int .i64 t.un) := h 4 (by omega)
    have g5 : w.cell? ⟨b, k + 5, none⟩ = some (.int .i64 t.k0) := h 5 (by omega)
    have g6 : w.cell? ⟨b, k + 6, none⟩ = some (.int .i64 t.k1) := h 6 (by omega)
    have g7 : w.cell? ⟨b, k + 7, none⟩ = some (.int .i64 t.k2) := h 7 (by omega)
    have g8 : w.cell? ⟨b, k + 8, none⟩ = some (.int .i64 t.k3) := h 8 (by omega)
    have g9 : w.cell? ⟨b, k + 9, none⟩ = some (.int .i64 t.st) := h 9 (by omega)
    have g10 : w.cell? ⟨b, k + 10, none⟩ = some (.int .i64 t.rn) := h 10 (by omega)
    clear h
    unfold execOp tc
    simp only [ho, hx]
    go_simp

set_option maxHeartbeats 2000000 in
theorem sameTasks_tr (A B : Option Addr) (n c d : Nat) (l : List Tk) (w : World) (hp : Tks w A n c l) (hq : Tks w B n d l) :
    Calls Tryd.prog 15 #[.slice A n c, .slice B n d] w (RetB (.bool true) w) := by
  have HP := Lib.hid hp
  have HQ := Lib.hid hq
  have hn := Nat.le_trans hp.2.1.1 hp.2.1.2
  clear hp hq
  go_enter Tryd.func15, Tryd.ntmps15
  go_wp2
  go_loopw [13] (fun t wr => ∃ k : Nat, k ≤ n ∧ t = .int .i64 k ∧ Hid (Below w.heap.size w wr)) (fun t _ => n - (intOf t).toNat)
  case atStart => exact ⟨0, Nat.zero_le _, rfl, Lib.hid (Below.refl _ _)⟩
  case round =>
    rename World => wr
    obtain ⟨k, hk, rfl, HB⟩ := hrel
    by_cases hlt : k < n
    · obtain ⟨b, o, rfl, hbl, g⟩ := (HP.out.below HB.out).at_ hlt
      obtain ⟨b', o', rfl, hbl', g'⟩ := (HQ.out.below HB.out).at_ hlt
      obtain ⟨t, ht⟩ : ∃ t, kth l k = t := ⟨_, rfl⟩
      rw [ht] at g g'
      have HG : Hid (∀ U, Below wr.heap.size wr U → ∀ i, i < 11 → U.cell? ⟨b, o + k * 11 + i, none⟩ = (tc t).toList[i]?) := Lib.hid (fun U hU i hi => (hU.cell (p := ⟨b, _, none⟩) hbl).trans (g i hi))
      have HG' : Hid (∀ U, Below wr.heap.size wr U → ∀ i, i < 11 → U.cell? ⟨b', o' + k * 11 + i, none⟩ = (tc t).toList[i]?) := Lib.hid (fun U hU i hi => (hU.cell (p := ⟨b', _, none⟩) hbl').trans (g' i hi))
      clear g g' ht
      go_wp2
      refine calm_region (S := fun U => Below wr.heap.size wr U) (by kernel_rfl) (Below.refl _ _).drew ?_
      refine calm_to (i := 0) (t := 16) (v := .slice (some ⟨b, o, none⟩) n c) rfl rfl (by kernel_rfl) (by kernel_rfl) (by kernel_rfl) (fun _ _ _ h => h) (calm_move rfl (.tmp 0) (.inl rfl) rfl) ?_
      simp only [List.setIfInBounds_toArray, List.set_cons_zero, List.set_cons_succ]
      refine calm_to (i := 1) (t := 17) (v := .int .i64 (k : Int)) rfl rfl (by kernel_rfl) (by kernel_rfl) (by kernel_rfl) (fun _ _ _ h => h) (calm_move rfl (.tmp 5) (.inl rfl) rfl) ?_
      simp only [List.setIfInBounds_toArray, List.set_cons_zero, List.set_cons_succ]
      refine calm_to (i := 2) (t := 18) (v := .pointer (some ⟨b, o + k * 11, none⟩)) rfl rfl (by kernel_rfl) (by kernel_rfl) (by kernel_rfl) (fun _ _ _ h => h) (calm_of rfl (fun U hU => by go_simp)) ?_
      simp only [List.setIfInBounds_toArray, List.set_cons_zero, List.set_cons_succ]
      refine calm_to (i := 3) (t := 19) (v := .agg (tc t)) rfl rfl (by kernel_rfl) (by kernel_rfl) (by kernel_rfl) (fun _ _ _ h => h) (calm_task rfl (.tmp 18) rfl b _ rfl HG.out) ?_
      simp only [List.setIfInBounds_toArray, List.set_cons_zero, List.set_cons_succ]
      refine calm_to (i := 4) (t := 20) (v := .slice (some ⟨b', o', none⟩) n d) rfl rfl (by kernel_rfl) (by kernel_rfl) (by kernel_rfl) (fun _ _ _ h => h) (calm_move rfl (.tmp 1) (.inl rfl) rfl) ?_
      simp only [List.setIfInBounds_toArray, List.set_cons_zero, List.set_cons_succ]
      refine calm_to (i := 5) (t := 21) (v := .int .i64 (k : Int)) rfl rfl (by kernel_rfl) (by kernel_rfl) (by kernel_rfl) (fun _ _ _ h => h) (calm_move rfl (.tmp 5) (.inl rfl) rfl) ?_
      simp only [List.setIfInBounds_toArray, List.set_cons_zero, List.set_cons_succ]
      refine calm_to (i := 6) (t := 22) (v := .pointer (some ⟨b', o' + k * 11, none⟩)) rfl rfl (by kernel_rfl) (by kernel_rfl) (by kernel_rfl) (fun _ _ _ h => h) (calm_of rfl (fun U hU => by go_simp)) ?_
      simp only [List.setIfInBounds_toArray, List.set_cons_zero, List.set_cons_succ]
      refine calm_to (i := 7) (t := 23) (v := .agg (tc t)) rfl rfl (by kernel_rfl) (by kernel_rfl) (by kernel_rfl) (fun _ _ _ h => h) (calm_task rfl (.tmp 22) rfl b' _ rfl HG'.out) ?_
      simp only [List.setIfInBounds_toArray, List.set_cons_zero, List.set_cons_succ]
      refine calm_to (i := 8) (t := 24) (v := .bool false) rfl rfl (by kernel_rfl) (by kernel_rfl) (by kernel_rfl) (fun _ _ _ h => h) (calm_of rfl (fun U hU => by have hne := neq_task t; have hgd := guard_task; go_simp)) ?_
      simp only [List.setIfInBounds_toArray, List.set_cons_zero, List.set_cons_succ]
      refine calm_done (by kernel_rfl) (fun U hU => ?_) _
      have HB2 := Lib.hid (below3 HB.out hU)
      clear hU
      go_wp2
      go_roundw
      case rel => exact ⟨k + 1, by omega, by go_num, HB2⟩
      case measure => simp [intOf]; omega
    · go_wp2
      go_ret
      exact RetB.of rfl HB.out

end Go.Proofs.YtfhlligcbpnkkaaDoor

/-
  How programs of tasks, and lists of such, and octets (with their room) among the arguments are read.
-/
namespace Go.Proofs.YtfhlligcbpnkkaaDoor
open Go.ChangeShapes Go.WideShapes Go.ChangeAt Go.RowKit Go.Joins Go.Deep

theorem Tryd.cellsInstr : Tryd.prog.cellsOf 50 = 3 := by kernel_rfl
theorem Tryd.cellsSlice : Tryd.prog.cellsOf 46 = 1 := by kernel_rfl
theorem Tryd.cellsInt : Tryd.prog.cellsOf 3 = 1 := by kernel_rfl
theorem Tryd.cellsOct : Tryd.prog.cellsOf 5 = 1 := by kernel_rfl

section
variable {H : Type} {enc : TypeId × Value → H} {W : World}

/-- Three cells that read as an instruction hold three numbers. -/
theorem instr_cells {a : Addr} {fuel : Nat} {cs : List Value} {y : DataW H × List MemPlace} (h1 : W.cells? 0 a 3 = some cs) (h2 : DataW.trod enc Tryd.prog W 0 (fun _ => true) true fuel 50 cs = some y) :
    ∃ x : I3, FitI x ∧ W.cell? (a.add 0) = some (.int .i64 x.1) ∧ W.cell? (a.add 1) = some (.int .i64 x.2.1) ∧ W.cell? (a.add 2) = some (.int .i64 x.2.2) := by
  obtain ⟨_, hlen, hcell⟩ := World.cells?_some h1
  obtain ⟨xs, k, hk, hxy, _, hxl, hf⟩ := DataW.trod_struct Tryd.underlying50 h2
  match xs, hxl, cs, hlen with
  | [y0, y1, y2], _, [v0, v1, v2], _ =>
    have g0 := hf 0 _ rfl
    have g1 := hf 1 _ rfl
    have g2 := hf 2 _ rfl
    simp [Tryd.cellsInt] at g0 g1 g2
    obtain ⟨x0, e0, _, w0⟩ := DataW.trod_int Tryd.underlying3 g0
    obtain ⟨x1, e1, _, w1⟩ := DataW.trod_int Tryd.underlying3 g1
    obtain ⟨x2, e2, _, w2⟩ := DataW.trod_int Tryd.underlying3 g2
    simp at e0 e1 e2
    subst e0 e1 e2
    have q0 := hcell 0 (by omega)
    have q1 := hcell 1 (by omega)
    have q2 := hcell 2 (by omega)
    exact ⟨(x0, x1, x2), ⟨fit_of_wf w0, fit_of_wf w1, fit_of_wf w2⟩, by simpa using q0, by simpa using q1, by simpa using q2⟩

/-- A slice of instructions, as 'trod' reads it, reads as a list. -/
theorem prog_trod {A : Option Addr} {n c fuel : Nat} {x : DataW H × List MemPlace} (hf : DataW.trod enc Tryd.prog W 0 (fun _ => true) true fuel 46 [.slice A n c] = some x) (hlt : ∀ y ∈ x.2, y.block < W.heap.size) :
    ∃ p, Prog W A n c p := by
  rcases open_slice Tryd.underlying46 hf with ⟨hcs, hx⟩ | ⟨a, len', cap', m, n', D, Pl, hcs, _, hl, hm, hmm, hx, hel⟩
  · simp at hcs
    obtain ⟨rfl, rfl, rfl⟩ := hcs
    exact ⟨[], Prog.nil_ _ _ (by omega)⟩
  · simp at hcs
    obtain ⟨rfl, rfl, rfl⟩ := hcs
    subst hx
    simp only [if_true] at hmm
    subst hmm
    unfold maxLen at hm
    obtain ⟨X, hX⟩ := choose_lt (α := I3) (p := fun i x => FitI x ∧ W.cell? ((a.add (i * 3)).add 0) = some (.int .i64 x.1) ∧ W.cell? ((a.add (i * 3)).add 1) = some (.int .i64 x.2.1) ∧ W.cell? ((a.add (i * 3)).add 2) = some (.int .i64 x.2.2)) (fun i hi => by
      obtain ⟨cs', h1, h2⟩ := hel i hi
      rw [Tryd.cellsInstr] at h1
      exact instr_cells h1 h2)
    refine ⟨(List.range n).map X, by simp, by omega, fun x hx => ?_, fun hn => ?_⟩
    · obtain ⟨i, hi, rfl⟩ := List.mem_map.1 hx
      exact (hX i (by have := List.mem_range.1 hi; omega)).1
    · obtain ⟨b, off, spot⟩ := a
      have h00 := (hX 0 (by omega)).2.1
      rw [add_add] at h00
      have hspot : spot = none := by simpa [Addr.add] using World.cell?_spot h00
      subst hspot
      have hbW : b < W.heap.size := hlt (.cell b off) (List.mem_append_left _ (MemPlace.mem_row.2 ⟨0, by rw [Tryd.cellsInstr]; omega, by simp⟩))
      refine ⟨b, off, rfl, hbW, fun j hj => ?_⟩
      obtain ⟨_, k0, k1, k2⟩ := hX j (by omega)
      have e : ith ((List.range n).map X) j = X j := by simp [ith, List.getD, hj]
      rw [add_add, add_plain] at k0 k1 k2
      unfold jO jA jB
      rw [e]
      exact ⟨k0, k1, k2⟩

/-- A slice of instructions among the arguments reads as a list. -/
theorem open_prog {r : Reach} {base : Nat} {v : Value} {d : DataW H} {p : List MemPlace} (hval : Value.okWide Tryd.prog W r base 46 v)
    (h : DataW.Trod enc Tryd.prog W 0 (fun _ => true) true 46 v d p) (hlt : ∀ x ∈ p, x.block < W.heap.size) : ∃ A n c q, v = .slice A n c ∧ Prog W A n c q := by
  obtain ⟨a0, len, cap, rfl⟩ := okWide_slice Tryd.underlying46 hval
  obtain ⟨fuel, hf⟩ := h
  obtain ⟨q, hq⟩ := prog_trod (by simpa [Value.cells] using hf) hlt
  exact ⟨a0, len, cap, q, rfl, hq⟩

/-- A slice of such slices among the arguments reads as a list of lists. -/
theorem open_prgs {r : Reach} {base : Nat} {v : Value} {d : DataW H} {p : List MemPlace} (hval : Value.okWide Tryd.prog W r base 22 v)
    (h : DataW.Trod enc Tryd.prog W 0 (fun _ => true) true 22 v d p) (hlt : ∀ x ∈ p, x.block < W.heap.size) : ∃ A n c l, v = .slice A n c ∧ Prgs W A n l := by
  obtain ⟨a0, len, cap, rfl⟩ := okWide_slice Tryd.underlying22 hval
  obtain ⟨fuel, hf⟩ := h
  refine ⟨a0, len, cap, ?_⟩
  rcases open_slice Tryd.underlying22 hf with ⟨hcs, hx⟩ | ⟨a, len', cap', m, n', D, Pl, hcs, _, hl, hm, hmm, hx, hel⟩
  · simp [Value.cells] at hcs
    obtain ⟨rfl, rfl, rfl⟩ := hcs
    exact ⟨[], rfl, Prgs.nil_ _ _⟩
  · simp [Value.cells] at hcs
    obtain ⟨rfl, rfl, rfl⟩ := hcs
    simp only [Prod.mk.injEq] at hx
    obtain ⟨rfl, rfl⟩ := hx
    simp only [if_true] at hmm
    subst hmm
    unfold maxLen at hm
    obtain ⟨X, hX⟩ := choose_lt (α := Hd × List I3) (p := fun i x => W.cell? (a.add i) = some (hv x.1) ∧ Prog W x.1.1 x.1.2.1 x.1.2.2 x.2) (fun i hi => by
      obtain ⟨cs', h1, h2⟩ := hel i hi
      rw [Tryd.cellsSlice] at h1
      obtain ⟨_, hlen, hcell⟩ := World.cells?_some h1
      match cs', hlen with
      | [v0], _ =>
        have hone := hcell 0 (by omega)
        rw [Nat.mul_one, add_add] at hone
        obtain ⟨A', n1, c1, e⟩ : ∃ A' n1 c1, v0 = .slice A' n1 c1 := by
          rcases open_slice Tryd.underlying46 h2 with ⟨hcs, _⟩ | ⟨a', l', c', _, _, _, _, hcs, _⟩
          · simp at hcs; exact ⟨_, _, _, hcs⟩
          · simp at hcs; exact ⟨_, _, _, hcs⟩
        subst e
        obtain ⟨q, hq⟩ := prog_trod h2 (fun y hy => hlt y (List.mem_append_right _ (List.mem_flatMap.2 ⟨i, List.mem_range.2 hi, by simpa using hy⟩)))
        exact ⟨((A', n1, c1), q), by simpa [hv] using hone, hq⟩)
    refine ⟨(List.range len).map fun i => (X i).2, rfl, by simp, by omega, (List.range len).map fun i => (X i).1, ⟨by simp, fun j hj => ?_⟩, fun hn => ?_⟩
    · have hj' : j < len := by simpa using hj
      have e1 : hth ((List.range len).map fun i => (X i).1) j = (X j).1 := by simp [hth, List.getD, hj']
      have e2 : pth ((List.range len).map fun i => (X i).2) j = (X j).2 := by simp [pth, List.getD, hj']
      rw [e1, e2]
      exact (hX j (by omega)).2
    · obtain ⟨b, off, spot⟩ := a
      have h00 := (hX 0 (by omega)).1
      have hspot : spot = none := by simpa [Addr.add] using World.cell?_spot h00
      subst hspot
      have hbW : b < W.heap.size := hlt (.cell b off) (List.mem_append_left _ (MemPlace.mem_row.2 ⟨0, by rw [Tryd.cellsSlice]; omega, by simp⟩))
      refine ⟨b, off, rfl, hbW, fun j hj => ?_⟩
      have := (hX j (by omega)).1
      rw [add_plain] at this
      have e1 : hth ((List.range len).map fun i => (X i).1) j = (X j).1 := by simp [hth, List.getD, hj]
      rw [e1]
      exact this

end

end Go.Proofs.YtfhlligcbpnkkaaDoor

/-
  How a slice of int among the arguments is read.
-/
namespace Go.Proofs.YtfhlligcbpnkkaaDoor
open Go.ChangeShapes Go.WideShapes Go.ChangeAt Go.RowKit Go.Joins

theorem Tryd.bytesInt : Tryd.prog.bytesOf 3 = 8 := by kernel_rfl

section
variable {H : Type} {enc : TypeId × Value → H}

/-- A slice of int among the arguments reads as a list. -/
theorem open_nums {t : TypeId} (ht : Tryd.prog.underlying t = some (.slice 3)) {W : World} {r : Reach} {base : Nat} {v : Value} {d : DataW H} {p : List MemPlace} (hval : Value.okWide Tryd.prog W r base t v)
    (h : DataW.Trod enc Tryd.prog W 0 (fun _ => true) true t v d p) (hlt : ∀ x ∈ p, x.block < W.heap.size)
    {ts : List TypeId} {ds : List (DataW H)} (hsz : (DataW.weightsEach Tryd.prog ts ds).all (· ≤ reachBytes) = true) {j : Nat} (hj : ts[j]? = some t) (hd : ds[j]? = some d) :
    ∃ A n c zs, v = .slice A n c ∧ Ints W A n zs := by
  obtain ⟨a0, len, cap, rfl⟩ := okWide_slice ht hval
  obtain ⟨fuel, hf⟩ := h
  refine ⟨a0, len, cap, ?_⟩
  rcases open_ints ht Tryd.underlying3 Tryd.cellsInt hf with ⟨hcs, hx⟩ | ⟨a, len', cap', zs, hcs, _, hl, hm, hz, hx, hcell, hwz⟩
  · simp [Value.cells] at hcs
    obtain ⟨rfl, rfl, rfl⟩ := hcs
    exact ⟨[], rfl, Ints.nil_ _ _⟩
  · simp [Value.cells] at hcs
    obtain ⟨rfl, rfl, rfl⟩ := hcs
    simp only [Prod.mk.injEq] at hx
    obtain ⟨rfl, rfl⟩ := hx
    simp only [if_true] at hz
    have hreach : len * 8 ≤ 140737488351232 := by
      have := sized_slice hsz hj hd ht
      rw [Tryd.bytesInt] at this
      simp only [lits, List.length_map, List.length_take, List.length_drop, reachBytes] at this
      omega
    refine ⟨zs.take len, rfl, by rw [List.length_take]; omega, hreach, fun z hz => fit_of_wf (hwz z (List.mem_of_mem_take hz)), fun hn => ?_⟩
    obtain ⟨b, off, spot⟩ := a
    have hspot : spot = none := by simpa [Addr.add] using World.cell?_spot (hcell 0 (by omega))
    subst hspot
    have hbW : b < W.heap.size := hlt (.cell b off) (MemPlace.mem_row.2 ⟨0, by omega, by simp⟩)
    refine ⟨b, off, rfl, hbW, fun j hj => ?_⟩
    have := hcell j (by omega)
    rw [add_plain] at this
    rw [this]
    simp [nth, List.getD, hj]

end

end Go.Proofs.YtfhlligcbpnkkaaDoor

/-
  How a slice of octets among the arguments is read.
-/
namespace Go.Proofs.YtfhlligcbpnkkaaDoor
open Go.ChangeShapes Go.WideShapes Go.ChangeAt Go.RowKit Go.Joins

theorem Tryd.bytesOct : Tryd.prog.bytesOf 5 = 1 := by kernel_rfl

section
variable {H : Type} {enc : TypeId × Value → H}

set_option maxRecDepth 100000 in
/-- A slice of octets, as 'trod' reads it, reads as a list. -/
theorem octs_trod {t : TypeId} (ht : Tryd.prog.underlying t = some (.slice 5)) {W : World} {A : Option Addr} {n c fuel : Nat} {x : DataW H × List MemPlace}
    (hf : DataW.trod enc Tryd.prog W 0 (fun _ => true) true fuel t [.slice A n c] = some x) (hlt : ∀ y ∈ x.2, y.block < W.heap.size) :
    n ≤ 9223372036854775807 ∧ ∃ zs, n ≤ 140737488351232 → Octs W A n zs := by
  rcases open_ints ht Tryd.underlying5 Tryd.cellsOct hf with ⟨hcs, hx⟩ | ⟨a, len', cap', zs, hcs, _, hl, hm, hz, hx, hcell, hwz⟩
  · simp at hcs
    obtain ⟨rfl, rfl, rfl⟩ := hcs
    exact ⟨by omega, [], fun _ => Octs.nil_ _ _⟩
  · simp at hcs
    obtain ⟨rfl, rfl, rfl⟩ := hcs
    subst hx
    simp only [if_true] at hz
    unfold maxLen at hm
    refine ⟨by omega, zs.take n, fun hn47 => ⟨by rw [List.length_take]; omega, hn47, fun z hz => oct_of_wf (hwz z (List.mem_of_mem_take hz)), fun hn => ?_⟩⟩
    obtain ⟨b, off, spot⟩ := a
    have hspot : spot = none := by simpa [Addr.add] using World.cell?_spot (hcell 0 (by omega))
    subst hspot
    have hbW : b < W.heap.size := hlt (.cell b off) (MemPlace.mem_row.2 ⟨0, by omega, by simp⟩)
    refine ⟨b, off, rfl, hbW, fun j hj => ?_⟩
    have := hcell j (by omega)
    rw [add_plain] at this
    rw [this]
    simp [nth, List.getD, hj]

set_option maxRecDepth 100000 in
/-- A slice of octets among the arguments reads as a list. -/
theorem open_octs {t : TypeId} (ht : Tryd.prog.underlying t = some (.slice 5)) {W : World} {r : Reach} {base : Nat} {v : Value} {d : DataW H} {p : List MemPlace} (hval : Value.okWide Tryd.prog W r base t v)
    (h : DataW.Trod enc Tryd.prog W 0 (fun _ => true) true t v d p) (hlt : ∀ x ∈ p, x.block < W.heap.size) :
    ∃ A n c zs, v = .slice A n c ∧ n ≤ 9223372036854775807 ∧ (n ≤ 140737488351232 → Octs W A n zs) := by
  obtain ⟨a0, len, cap, rfl⟩ := okWide_slice ht hval
  obtain ⟨fuel, hf⟩ := h
  obtain ⟨h1, zs, h2⟩ := octs_trod ht (by simpa [Value.cells] using hf) hlt
  exact ⟨a0, len, cap, zs, rfl, h1, h2⟩

end

end Go.Proofs.YtfhlligcbpnkkaaDoor

/-
  Layer 18: how events (a slice of them, one of them) among the arguments are read.
-/
namespace Go.Proofs.YtfhlligcbpnkkaaDoor
open Go.ChangeShapes Go.WideShapes Go.ChangeAt Go.RowKit Go.Joins Go.Deep

theorem Tryd.cellsI64e : Tryd.prog.cellsOf 2 = 1 := by kernel_rfl
theorem Tryd.cellsEvent : Tryd.prog.cellsOf 41 = 3 := by kernel_rfl

section
variable {H : Type} {enc : TypeId × Value → H} {W : World}

/-- Three cells that read as an instruction hold three numbers. -/
theorem event_cells {a : Addr} {fuel : Nat} {cs : List Value} {y : DataW H × List MemPlace} (h1 : W.cells? 0 a 3 = some cs) (h2 : DataW.trod enc Tryd.prog W 0 (fun _ => true) true fuel 41 cs = some y) :
    ∃ x : I3, FitI x ∧ W.cell? (a.add 0) = some (.int .i64 x.1) ∧ W.cell? (a.add 1) = some (.int .i64 x.2.1) ∧ W.cell? (a.add 2) = some (.int .i64 x.2.2) := by
  obtain ⟨_, hlen, hcell⟩ := World.cells?_some h1
  obtain ⟨xs, k, hk, hxy, _, hxl, hf⟩ := DataW.trod_struct Tryd.underlying41 h2
  match xs, hxl, cs, hlen with
  | [y0, y1, y2], _, [v0, v1, v2], _ =>
    have g0 := hf 0 _ rfl
    have g1 := hf 1 _ rfl
    have g2 := hf 2 _ rfl
    simp [Tryd.cellsInt, Tryd.cellsI64e] at g0 g1 g2
    obtain ⟨x0, e0, _, w0⟩ := DataW.trod_int Tryd.underlying3 g0
    obtain ⟨x1, e1, _, w1⟩ := DataW.trod_int Tryd.underlying2 g1
    obtain ⟨x2, e2, _, w2⟩ := DataW.trod_int Tryd.underlying3 g2
    simp at e0 e1 e2
    subst e0 e1 e2
    have q0 := hcell 0 (by omega)
    have q1 := hcell 1 (by omega)
    have q2 := hcell 2 (by omega)
    exact ⟨(x0, x1, x2), ⟨fit_of_wf w0, fit_of_wf w1, fit_of_wf w2⟩, by simpa using q0, by simpa using q1, by simpa using q2⟩

/-- A slice of instructions, as 'trod' reads it, reads as a list. -/
theorem events_trod {A : Option Addr} {n c fuel : Nat} {x : DataW H × List MemPlace} (hf : DataW.trod enc Tryd.prog W 0 (fun _ => true) true fuel 23 [.slice A n c] = some x) (hlt : ∀ y ∈ x.2, y.block < W.heap.size) :
    ∃ p, Prog W A n c p := by
  rcases open_slice Tryd.underlying23 hf with ⟨hcs, hx⟩ | ⟨a, len', cap', m, n', D, Pl, hcs, _, hl, hm, hmm, hx, hel⟩
  · simp at hcs
    obtain ⟨rfl, rfl, rfl⟩ := hcs
    exact ⟨[], Prog.nil_ _ _ (by omega)⟩
  · simp at hcs
    obtain ⟨rfl, rfl, rfl⟩ := hcs
    subst hx
    simp only [if_true] at hmm
    subst hmm
    unfold maxLen at hm
    obtain ⟨X, hX⟩ := choose_lt (α := I3) (p := fun i x => FitI x ∧ W.cell? ((a.add (i * 3)).add 0) = some (.int .i64 x.1) ∧ W.cell? ((a.add (i * 3)).add 1) = some (.int .i64 x.2.1) ∧ W.cell? ((a.add (i * 3)).add 2) = some (.int .i64 x.2.2)) (fun i hi => by
      obtain ⟨cs', h1, h2⟩ := hel i hi
      rw [Tryd.cellsEvent] at h1
      exact event_cells h1 h2)
    refine ⟨(List.range n).map X, by simp, by omega, fun x hx => ?_, fun hn => ?_⟩
    · obtain ⟨i, hi, rfl⟩ := List.mem_map.1 hx
      exact (hX i (by have := List.mem_range.1 hi; omega)).1
    · obtain ⟨b, off, spot⟩ := a
      have h00 := (hX 0 (by omega)).2.1
      rw [add_add] at h00
      have hspot : spot = none := by simpa [Addr.add] using World.cell?_spot h00
      subst hspot
      have hbW : b < W.heap.size := hlt (.cell b off) (List.mem_append_left _ (MemPlace.mem_row.2 ⟨0, by rw [Tryd.cellsEvent]; omega, by simp⟩))
      refine ⟨b, off, rfl, hbW, fun j hj => ?_⟩
      obtain ⟨_, k0, k1, k2⟩ := hX j (by omega)
      have e : ith ((List.range n).map X) j = X j := by simp [ith, List.getD, hj]
      rw [add_add, add_plain] at k0 k1 k2
      unfold jO jA jB
      rw [e]
      exact ⟨k0, k1, k2⟩

/-- A slice of instructions among the arguments reads as a list. -/
theorem open_evs {r : Reach} {base : Nat} {v : Value} {d : DataW H} {p : List MemPlace} (hval : Value.okWide Tryd.prog W r base 23 v)
    (h : DataW.Trod enc Tryd.prog W 0 (fun _ => true) true 23 v d p) (hlt : ∀ x ∈ p, x.block < W.heap.size) : ∃ A n c q, v = .slice A n c ∧ Prog W A n c q := by
  obtain ⟨a0, len, cap, rfl⟩ := okWide_slice Tryd.underlying23 hval
  obtain ⟨fuel, hf⟩ := h
  obtain ⟨q, hq⟩ := events_trod (by simpa [Value.cells] using hf) hlt
  exact ⟨a0, len, cap, q, rfl, hq⟩
/-- An event among the arguments. -/
theorem open_ev {r : Reach} {base : Nat} {v : Value} {d : DataW H} {p : List MemPlace} (hval : Value.okWide Tryd.prog W r base 41 v)
    (h : DataW.Trod enc Tryd.prog W 0 (fun _ => true) true 41 v d p) : ∃ x y z : Int, v = .agg #[.int .i64 x, .int .i64 y, .int .i64 z] ∧ FitI (x, y, z) := by
  obtain ⟨c0, c1, c2, y0, y1, y2, m, rfl, rfl, rfl, h0, h1, h2⟩ := open_agg3 Tryd.underlying41 (by kernel_rfl) Tryd.cellsEvent hval h
  obtain ⟨x0, e0, _, w0⟩ := DataW.trod_int Tryd.underlying3 h0
  obtain ⟨x1, e1, _, w1⟩ := DataW.trod_int Tryd.underlying2 h1
  obtain ⟨x2, e2, _, w2⟩ := DataW.trod_int Tryd.underlying3 h2
  simp at e0 e1 e2
  subst e0 e1 e2
  exact ⟨x0, x1, x2, rfl, fit_of_wf w0, fit_of_wf w1, fit_of_wf w2⟩
end

end Go.Proofs.YtfhlligcbpnkkaaDoor

/-
  Layer 18: mathematics of the laws: the tasks behind all events, each with its own.
-/
namespace Go.Proofs.YtfhlligcbpnkkaaDoor
open Go.RowKit

theorem tasks_count (P : List (List I3)) (l : List I3) : (tasksL P l).length = cntR l 1 := by simp [tasksL, cntR]
/-- A task of those behind all: its own events, and what holds behind them. -/
theorem task_of {P : List (List I3)} {l : List I3} (hP : okL P) (hall : badT P l = l.length) {j : Nat} (hj : j < (tasksL P l).length) :
    0 < (ofR l (kth (tasksL P l) j).id).length ∧ LifeT P (ofR l (kth (tasksL P l) j).id) (ofR l (kth (tasksL P l) j).id).length (kth (tasksL P l) j) := by
  have hm : kth (tasksL P l) j ∈ tasksL P l := by rw [kth_get hj]; exact List.getElem_mem _
  obtain ⟨x, hx, ht⟩ := List.mem_map.1 hm
  rw [List.mem_filter] at hx
  have hs := all_own.1 hall x.2.1
  cases ho : oneT P (ofR l x.2.1) with
  | none => rw [ho] at hs; cases hs
  | some t =>
    rw [ho] at ht
    have ht' : t = kth (tasksL P l) j := ht
    have hpos : 0 < (ofR l x.2.1).length := List.length_pos_of_mem (ofR_mem.2 ⟨hx.1, rfl⟩)
    have L := life_all hP hpos ho
    have hid : t.id = x.2.1 := by
      rw [L.who.1, ith_get hpos]
      exact (ofR_mem.1 (List.getElem_mem hpos)).2
    rw [← ht', hid]
    exact ⟨hpos, L⟩
section
variable {P : List (List I3)} {m : List I3} {t : Tk}
theorem LifeT.ranAll (L : LifeT P m m.length t) : t.rn = (cntR m 2 : Int) := by have := L.ran; rwa [List.take_length] at this
theorem LifeT.didMost (L : LifeT P m m.length t) : (cntR m 2 : Int) ≤ units (prgT P t) + 1 := by have := L.most; rwa [L.ranAll] at this
theorem LifeT.endLast (L : LifeT P m m.length t) {i : Nat} (hi : i < m.length) (h : (ith m i).1 = 5 ∨ (ith m i).1 = 6) : i = m.length - 1 := Classical.byContradiction fun q => by
  have := L.ends i (by omega)
  omega
theorem LifeT.bornFirst (L : LifeT P m m.length t) {i : Nat} (hi : i < m.length) (h : (ith m i).1 = 1) : i = 0 := Classical.byContradiction fun q => L.born.2 i (by omega) hi h
theorem LifeT.endOver (L : LifeT P m m.length t) : ((ith m (m.length - 1)).1 = 5 ∨ (ith m (m.length - 1)).1 = 6) ↔ t.st = 7 := by
  rcases L.st with ⟨h, e⟩ | ⟨h, e⟩ | ⟨h, e⟩
  · rw [e]; constructor
    · intro q; omega
    · intro q; exact absurd q (by decide)
  · constructor
    · intro q; omega
    · intro q; rw [q] at e; exact absurd e (by decide)
  · exact ⟨fun _ => e, fun _ => h⟩
theorem LifeT.afterHeld (L : LifeT P m m.length t) {i : Nat} (h0 : 0 < i) (hi : i < m.length) (h : (ith m (i - 1)).1 = 3) : (ith m i).1 = 4 ∨ (ith m i).1 = 6 := by
  have := (L.held (i - 1) (by omega)).1 h
  rwa [show i - 1 + 1 = i by omega] at this
theorem LifeT.freedHeld (L : LifeT P m m.length t) {i : Nat} (hi : i < m.length) (h : (ith m i).1 = 4) : 0 < i ∧ (ith m (i - 1)).1 = 3 := by
  have h0 : 0 < i := Classical.byContradiction fun q => by
    obtain rfl : i = 0 := by omega
    rw [L.born.1] at h
    exact absurd h (by decide)
  refine ⟨h0, (L.held (i - 1) (by omega)).2 ?_⟩
  rwa [show i - 1 + 1 = i by omega]
theorem LifeT.heldCount (L : LifeT P m m.length t) : cntR m 4 ≤ cntR m 3 ∧ cntR m 3 ≤ cntR m 4 + 1 := by
  have := L.waits
  rw [List.take_length] at this
  exact ⟨this.1, this.2.1⟩
end
/-- One more event of a task whose last one was an end may not come. -/
theorem more_end {P : List (List I3)} (hP : okL P) {m : List I3} (hm : 0 < m.length) (x : I3) (h : (oneT P (m ++ [x])).isSome = true) : x.1 ≠ 1 ∧ (ith m (m.length - 1)).1 ≠ 5 ∧ (ith m (m.length - 1)).1 ≠ 6 := by
  have hl : 0 < (m ++ [x]).length := by simp
  cases ho : oneT P (m ++ [x]) with
  | none => rw [ho] at h; cases h
  | some u =>
    have L := life_all hP hl ho
    have hlen : (m ++ [x]).length = m.length + 1 := by simp
    have hb := L.born.2 m.length hm (by omega)
    have he := L.ends (m.length - 1) (by omega)
    rw [ith_appR] at hb
    rw [ith_appL (by omega)] at he
    exact ⟨hb, he⟩

end Go.Proofs.YtfhlligcbpnkkaaDoor

/-
  The contract of the program's next (layer 7): a hand's next access, or that the hand may not be.
-/
import Derived.Test.YtfmiamjbhlglbaaNa
namespace Go.Proofs.Ytfmiamjbhlglbaa
open Go.RowKit Go.Maps

theorem counts_is (n least : Int) (w : World) : Calls Try.prog 29 #[.int .i64 n, .int .i64 least] w fun e w' => e = .returned (.bool (decide (cntOk n least))) ∧ w = w' := by
  by_cases h1 : least ≤ n
  · by_cases h2 : n ≤ 1099511627776
    · have h : decide (cntOk n least) = true := decide_eq_true ⟨h1, h2⟩
      rw [h]
      go_enter Try.func29, Try.ntmps29
      go_wp2
      go_ret
      exact ⟨by simp, rfl⟩
    · have h : decide (cntOk n least) = false := decide_eq_false (fun q => h2 q.2)
      rw [h]
      go_enter Try.func29, Try.ntmps29
      go_wp2
      go_ret
      exact ⟨by simp, rfl⟩
  · have h : decide (cntOk n least) = false := decide_eq_false (fun q => h1 q.1)
    rw [h]
    go_enter Try.func29, Try.ntmps29
    go_wp2
    go_ret
    exact ⟨by simp, rfl⟩

/-- The bools of what the look-up tells. -/
def lkV (o : Option Nat) : Value := match o with | none => .nilFunc | some i => .func (.func i) #[] #[]
def lkB (o : Option Nat) : Bool := o.isSome

/-- A function, or none, and an error's number. -/
def NextOf (fv : Value) (y : Int) (w : World) (e : Ending) (w' : World) : Prop := e = .returned (.tuple #[fv, .int .i64 y]) ∧ Below w.heap.size w w'

theorem next_0 (h : Hd) (w : World) (fk : Fit h.kind) (fp : Fit h.pc) (o : Option Nat) (ho : tblF h.kind h.pc = o) (g0 : lkB o = false) : Calls Try.prog 27 #[hv h] w (NextOf .nilFunc 1 w) := by
  have k1 := Bk.new w 27 (hc h)
  have B1 := (Below.refl w.heap.size w).alloc (Nat.le_refl _) (.cells (hc h) 27)
  obtain ⟨W, hW⟩ : ∃ W, w.alloc (.cells (hc h) 27) = W := ⟨_, rfl⟩
  rw [hW] at k1 B1
  unfold hc at hW
  have HW := Lib.hid hW
  have k0 := Lib.hid k1
  have B0 := Lib.hid B1
  clear hW k1 B1
  have FK := Lib.hid fk
  have FP := Lib.hid fp
  have HO := Lib.hid ho
  clear fk fp ho
  unfold hv
  go_enter Try.func27, Try.ntmps27
  go_wp2
  rw [HW.out]
  refine wp_region_held (S := fun U => Below W.heap.size W U) (by kernel_rfl) ?_
  change wpAnyH _ _ _ _ _ _ _ _ (World.drew _)
  have hS0 : Below W.heap.size W W.drew := (Below.refl _ _).drew
  refine take_at (i := 1) (d := 8) (v := .pointer (some ⟨w.heap.size, 0, none⟩)) rfl rfl (by kernel_rfl) (by kernel_rfl) (by kernel_rfl) (fun _ _ _ h => h) (.inl ⟨by kernel_rfl, fun U hU => by go_simp⟩) hS0 ?_
  simp only [Act.put, List.setIfInBounds_toArray, List.set_cons_zero, List.set_cons_succ]
  refine take_at (i := 2) (d := 9) (v := .int .i64 h.kind) rfl rfl (by kernel_rfl) (by kernel_rfl) (by kernel_rfl) (fun _ _ _ h => h) (.inl ⟨by kernel_rfl, fun U hU => by have h7 : _ = some (Value.int .i64 h.kind) := (k0.out.below hU k0.out.lt).cell 0; go_simp⟩) hS0 ?_
  simp only [Act.put, List.setIfInBounds_toArray, List.set_cons_zero, List.set_cons_succ]
  refine take_at (i := 3) (d := 10) (v := .pointer (some ⟨w.heap.size, 1, none⟩)) rfl rfl (by kernel_rfl) (by kernel_rfl) (by kernel_rfl) (fun _ _ _ h => h) (.inl ⟨by kernel_rfl, fun U hU => by go_simp⟩) hS0 ?_
  simp only [Act.put, List.setIfInBounds_toArray, List.set_cons_zero, List.set_cons_succ]
  refine take_at (i := 4) (d := 11) (v := .int .i64 h.pc) rfl rfl (by kernel_rfl) (by kernel_rfl) (by kernel_rfl) (fun _ _ _ h => h) (.inl ⟨by kernel_rfl, fun U hU => by have h7 : _ = some (Value.int .i64 h.pc) := (k0.out.below hU k0.out.lt).cell 1; go_simp⟩) hS0 ?_
  simp only [Act.put, List.setIfInBounds_toArray, List.set_cons_zero, List.set_cons_succ]
  refine take_at (i := 5) (d := 12) (v := .agg #[.int .i64 h.kind, .int .i64 h.pc]) rfl rfl (by kernel_rfl) (by kernel_rfl) (by kernel_rfl) (fun _ _ _ h => h) (.inl ⟨by kernel_rfl, fun U hU => by go_simp⟩) hS0 ?_
  simp only [Act.put, List.setIfInBounds_toArray, List.set_cons_zero, List.set_cons_succ]
  refine wpAnyH_all (rs := [0]) (by kernel_rfl) (by simp) ?_
  intro i hi
  simp only [List.mem_cons, List.not_mem_nil, or_false] at hi
  subst hi
  unfold wpOp
  go_simp
  left
  refine (accesses_any _).mono ?_
  rintro e w1 ⟨b, nn, rfl, G, b1⟩
  have hS1 := hS0.trans (b1.mono hS0.size)
  refine ⟨hS1, ?_⟩
  have hl0 := G.lookup FK.out FP.out
  rw [HO.out] at hl0
  have hl : (Instr.lookup 69 (.map (some b)) (.agg #[.int .i64 h.kind, .int .i64 h.pc]) true).run Try.prog w1 = .ok (.tuple #[lkV o, .bool (lkB o)]) w1 := by rw [hl0]; cases o <;> rfl
  clear hl0
  rw [g0] at hl
  refine wpAnyH_all (rs := [6]) (by kernel_rfl) (by simp) ?_
  intro i hi
  simp only [List.mem_cons, List.not_mem_nil, or_false] at hi
  subst hi
  unfold wpOp
  go_simp
  left
  refine take_at (i := 7) (d := 6) (v := .tuple #[lkV o, .bool false]) rfl rfl (by kernel_rfl) (by kernel_rfl) (by kernel_rfl) (fun _ _ _ h => h) (.inl ⟨by kernel_rfl, fun U hU => by go_simp⟩) hS1 ?_
  simp only [Act.put, List.setIfInBounds_toArray, List.set_cons_zero, List.set_cons_succ]
  refine take_at (i := 8) (d := 14) (v := lkV o) rfl rfl (by kernel_rfl) (by kernel_rfl) (by kernel_rfl) (fun _ _ _ h => h) (.inl ⟨by kernel_rfl, fun U hU => by go_simp⟩) hS1 ?_
  simp only [Act.put, List.setIfInBounds_toArray, List.set_cons_zero, List.set_cons_succ]
  refine take_at (i := 9) (d := 15) (v := .bool false) rfl rfl (by kernel_rfl) (by kernel_rfl) (by kernel_rfl) (fun _ _ _ h => h) (.inl ⟨by kernel_rfl, fun U hU => by go_simp⟩) hS1 ?_
  simp only [Act.put, List.setIfInBounds_toArray, List.set_cons_zero, List.set_cons_succ]
  refine take_at (i := 10) (d := 4) (v := lkV o) rfl rfl (by kernel_rfl) (by kernel_rfl) (by kernel_rfl) (fun _ _ _ h => h) (.inl ⟨by kernel_rfl, fun U hU => by go_simp⟩) hS1 ?_
  simp only [Act.put, List.setIfInBounds_toArray, List.set_cons_zero, List.set_cons_succ]
  refine take_at (i := 11) (d := 5) (v := .bool false) rfl rfl (by kernel_rfl) (by kernel_rfl) (by kernel_rfl) (fun _ _ _ h => h) (.inl ⟨by kernel_rfl, fun U hU => by go_simp⟩) hS1 ?_
  simp only [Act.put, List.setIfInBounds_toArray, List.set_cons_zero, List.set_cons_succ]
  refine wpAnyH_done (by kernel_rfl) ?_ _
  have k1 := k0.out.below hS1 k0.out.lt
  have q3 : _ = some (Value.int .i64 h.t) := k1.cell 3
  have q4 : _ = some (Value.int .i64 h.b) := k1.cell 4
  have q6 : _ = some (Value.int .i64 h.state) := k1.cell 6
  have hlt := k1.lt
  have B1 := Lib.hid (below3 B0.out hS1)
  clear hS0 hS1 G b1 hl k1
  go_wp2_with (go_at_call 29; refine (counts_is _ _ _).mono ?_; rintro e w2 ⟨rfl, rfl⟩)
  go_ret2
  exact ⟨rfl, B1.out⟩

theorem next_1 (h : Hd) (w : World) (fk : Fit h.kind) (fp : Fit h.pc) (o : Option Nat) (ho : tblF h.kind h.pc = o) (g0 : lkB o = true) (g1 : decide (cntOk h.t (-1)) = false) : Calls Try.prog 27 #[hv h] w (NextOf .nilFunc 1 w) := by
  have k1 := Bk.new w 27 (hc h)
  have B1 := (Below.refl w.heap.size w).alloc (Nat.le_refl _) (.cells (hc h) 27)
  obtain ⟨W, hW⟩ : ∃ W, w.alloc (.cells (hc h) 27) = W := ⟨_, rfl⟩
  rw [hW] at k1 B1
  unfold hc at hW
  have HW := Lib.hid hW
  have k0 := Lib.hid k1
  have B0 := Lib.hid B1
  clear hW k1 B1
  have FK := Lib.hid fk
  have FP := Lib.hid fp
  have HO := Lib.hid ho
  clear fk fp ho
  unfold hv
  go_enter Try.func27, Try.ntmps27
  go_wp2
  rw [HW.out]
  refine wp_region_held (S := fun U => Below W.heap.size W U) (by kernel_rfl) ?_
  change wpAnyH _ _ _ _ _ _ _ _ (World.drew _)
  have hS0 : Below W.heap.size W W.drew := (Below.refl _ _).drew
  refine take_at (i := 1) (d := 8) (v := .pointer (some ⟨w.heap.size, 0, none⟩)) rfl rfl (by kernel_rfl) (by kernel_rfl) (by kernel_rfl) (fun _ _ _ h => h) (.inl ⟨by kernel_rfl, fun U hU => by go_simp⟩) hS0 ?_
  simp only [Act.put, List.setIfInBounds_toArray, List.set_cons_zero, List.set_cons_succ]
  refine take_at (i := 2) (d := 9) (v := .int .i64 h.kind) rfl rfl (by kernel_rfl) (by kernel_rfl) (by kernel_rfl) (fun _ _ _ h => h) (.inl ⟨by kernel_rfl, fun U hU => by have h7 : _ = some (Value.int .i64 h.kind) := (k0.out.below hU k0.out.lt).cell 0; go_simp⟩) hS0 ?_
  simp only [Act.put, List.setIfInBounds_toArray, List.set_cons_zero, List.set_cons_succ]
  refine take_at (i := 3) (d := 10) (v := .pointer (some ⟨w.heap.size, 1, none⟩)) rfl rfl (by kernel_rfl) (by kernel_rfl) (by kernel_rfl) (fun _ _ _ h => h) (.inl ⟨by kernel_rfl, fun U hU => by go_simp⟩) hS0 ?_
  simp only [Act.put, List.setIfInBounds_toArray, List.set_cons_zero, List.set_cons_succ]
  refine take_at (i := 4) (d := 11) (v := .int .i64 h.pc) rfl rfl (by kernel_rfl) (by kernel_rfl) (by kernel_rfl) (fun _ _ _ h => h) (.inl ⟨by kernel_rfl, fun U hU => by have h7 : _ = some (Value.int .i64 h.pc) := (k0.out.below hU k0.out.lt).cell 1; go_simp⟩) hS0 ?_
  simp only [Act.put, List.setIfInBounds_toArray, List.set_cons_zero, List.set_cons_succ]
  refine take_at (i := 5) (d := 12) (v := .agg #[.int .i64 h.kind, .int .i64 h.pc]) rfl rfl (by kernel_rfl) (by kernel_rfl) (by kernel_rfl) (fun _ _ _ h => h) (.inl ⟨by kernel_rfl, fun U hU => by go_simp⟩) hS0 ?_
  simp only [Act.put, List.setIfInBounds_toArray, List.set_cons_zero, List.set_cons_succ]
  refine wpAnyH_all (rs := [0]) (by kernel_rfl) (by simp) ?_
  intro i hi
  simp only [List.mem_cons, List.not_mem_nil, or_false] at hi
  subst hi
  unfold wpOp
  go_simp
  left
  refine (accesses_any _).mono ?_
  rintro e w1 ⟨b, nn, rfl, G, b1⟩
  have hS1 := hS0.trans (b1.mono hS0.size)
  refine ⟨hS1, ?_⟩
  have hl0 := G.lookup FK.out FP.out
  rw [HO.out] at hl0
  have hl : (Instr.lookup 69 (.map (some b)) (.agg #[.int .i64 h.kind, .int .i64 h.pc]) true).run Try.prog w1 = .ok (.tuple #[lkV o, .bool (lkB o)]) w1 := by rw [hl0]; cases o <;> rfl
  clear hl0
  rw [g0] at hl
  refine wpAnyH_all (rs := [6]) (by kernel_rfl) (by simp) ?_
  intro i hi
  simp only [List.mem_cons, List.not_mem_nil, or_false] at hi
  subst hi
  unfold wpOp
  go_simp
  left
  refine take_at (i := 7) (d := 6) (v := .tuple #[lkV o, .bool true]) rfl rfl (by kernel_rfl) (by kernel_rfl) (by kernel_rfl) (fun _ _ _ h => h) (.inl ⟨by kernel_rfl, fun U hU => by go_simp⟩) hS1 ?_
  simp only [Act.put, List.setIfInBounds_toArray, List.set_cons_zero, List.set_cons_succ]
  refine take_at (i := 8) (d := 14) (v := lkV o) rfl rfl (by kernel_rfl) (by kernel_rfl) (by kernel_rfl) (fun _ _ _ h => h) (.inl ⟨by kernel_rfl, fun U hU => by go_simp⟩) hS1 ?_
  simp only [Act.put, List.setIfInBounds_toArray, List.set_cons_zero, List.set_cons_succ]
  refine take_at (i := 9) (d := 15) (v := .bool true) rfl rfl (by kernel_rfl) (by kernel_rfl) (by kernel_rfl) (fun _ _ _ h => h) (.inl ⟨by kernel_rfl, fun U hU => by go_simp⟩) hS1 ?_
  simp only [Act.put, List.setIfInBounds_toArray, List.set_cons_zero, List.set_cons_succ]
  refine take_at (i := 10) (d := 4) (v := lkV o) rfl rfl (by kernel_rfl) (by kernel_rfl) (by kernel_rfl) (fun _ _ _ h => h) (.inl ⟨by kernel_rfl, fun U hU => by go_simp⟩) hS1 ?_
  simp only [Act.put, List.setIfInBounds_toArray, List.set_cons_zero, List.set_cons_succ]
  refine take_at (i := 11) (d := 5) (v := .bool true) rfl rfl (by kernel_rfl) (by kernel_rfl) (by kernel_rfl) (fun _ _ _ h => h) (.inl ⟨by kernel_rfl, fun U hU => by go_simp⟩) hS1 ?_
  simp only [Act.put, List.setIfInBounds_toArray, List.set_cons_zero, List.set_cons_succ]
  refine wpAnyH_done (by kernel_rfl) ?_ _
  have k1 := k0.out.below hS1 k0.out.lt
  have q3 : _ = some (Value.int .i64 h.t) := k1.cell 3
  have q4 : _ = some (Value.int .i64 h.b) := k1.cell 4
  have q6 : _ = some (Value.int .i64 h.state) := k1.cell 6
  have hlt := k1.lt
  have B1 := Lib.hid (below3 B0.out hS1)
  clear hS0 hS1 G b1 hl k1
  go_wp2_with (go_at_call 29; refine (counts_is _ _ _).mono ?_; rintro e w2 ⟨rfl, rfl⟩)
  go_ret2
  exact ⟨rfl, B1.out⟩

theorem next_2 (h : Hd) (w : World) (fk : Fit h.kind) (fp : Fit h.pc) (o : Option Nat) (ho : tblF h.kind h.pc = o) (g0 : lkB o = true) (g1 : decide (cntOk h.t (-1)) = true) (g2 : decide (cntOk h.b (-1)) = false) : Calls Try.prog 27 #[hv h] w (NextOf .nilFunc 1 w) := by
  have k1 := Bk.new w 27 (hc h)
  have B1 := (Below.refl w.heap.size w).alloc (Nat.le_refl _) (.cells (hc h) 27)
  obtain ⟨W, hW⟩ : ∃ W, w.alloc (.cells (hc h) 27) = W := ⟨_, rfl⟩
  rw [hW] at k1 B1
  unfold hc at hW
  have HW := Lib.hid hW
  have k0 := Lib.hid k1
  have B0 := Lib.hid B1
  clear hW k1 B1
  have FK := Lib.hid fk
  have FP := Lib.hid fp
  have HO := Lib.hid ho
  clear fk fp ho
  unfold hv
  go_enter Try.func27, Try.ntmps27
  go_wp2
  rw [HW.out]
  refine wp_region_held (S := fun U => Below W.heap.size W U) (by kernel_rfl) ?_
  change wpAnyH _ _ _ _ _ _ _ _ (World.drew _)
  have hS0 : Below W.heap.size W W.drew := (Below.refl _ _).drew
  refine take_at (i := 1) (d := 8) (v := .pointer (some ⟨w.heap.size, 0, none⟩)) rfl rfl (by kernel_rfl) (by kernel_rfl) (by kernel_rfl) (fun _ _ _ h => h) (.inl ⟨by kernel_rfl, fun U hU => by go_simp⟩) hS0 ?_
  simp only [Act.put, List.setIfInBounds_toArray, List.set_cons_zero, List.set_cons_succ]
  refine take_at (i := 2) (d := 9) (v := .int .i64 h.kind) rfl rfl (by kernel_rfl) (by kernel_rfl) (by kernel_rfl) (fun _ _ _ h => h) (.inl ⟨by kernel_rfl, fun U hU => by have h7 : _ = some (Value.int .i64 h.kind) := (k0.out.below hU k0.out.lt).cell 0; go_simp⟩) hS0 ?_
  simp only [Act.put, List.setIfInBounds_toArray, List.set_cons_zero, List.set_cons_succ]
  refine take_at (i := 3) (d := 10) (v := .pointer (some ⟨w.heap.size, 1, none⟩)) rfl rfl (by kernel_rfl) (by kernel_rfl) (by kernel_rfl) (fun _ _ _ h => h) (.inl ⟨by kernel_rfl, fun U hU => by go_simp⟩) hS0 ?_
  simp only [Act.put, List.setIfInBounds_toArray, List.set_cons_zero, List.set_cons_succ]
  refine take_at (i := 4) (d := 11) (v := .int .i64 h.pc) rfl rfl (by kernel_rfl) (by kernel_rfl) (by kernel_rfl) (fun _ _ _ h => h) (.inl ⟨by kernel_rfl, fun U hU => by have h7 : _ = some (Value.int .i64 h.pc) := (k0.out.below hU k0.out.lt).cell 1; go_simp⟩) hS0 ?_
  simp only [Act.put, List.setIfInBounds_toArray, List.set_cons_zero, List.set_cons_succ]
  refine take_at (i := 5) (d := 12) (v := .agg #[.int .i64 h.kind, .int .i64 h.pc]) rfl rfl (by kernel_rfl) (by kernel_rfl) (by kernel_rfl) (fun _ _ _ h => h) (.inl ⟨by kernel_rfl, fun U hU => by go_simp⟩) hS0 ?_
  simp only [Act.put, List.setIfInBounds_toArray, List.set_cons_zero, List.set_cons_succ]
  refine wpAnyH_all (rs := [0]) (by kernel_rfl) (by simp) ?_
  intro i hi
  simp only [List.mem_cons, List.not_mem_nil, or_false] at hi
  subst hi
  unfold wpOp
  go_simp
  left
  refine (accesses_any _).mono ?_
  rintro e w1 ⟨b, nn, rfl, G, b1⟩
  have hS1 := hS0.trans (b1.mono hS0.size)
  refine ⟨hS1, ?_⟩
  have hl0 := G.lookup FK.out FP.out
  rw [HO.out] at hl0
  have hl : (Instr.lookup 69 (.map (some b)) (.agg #[.int .i64 h.kind, .int .i64 h.pc]) true).run Try.prog w1 = .ok (.tuple #[lkV o, .bool (lkB o)]) w1 := by rw [hl0]; cases o <;> rfl
  clear hl0
  rw [g0] at hl
  refine wpAnyH_all (rs := [6]) (by kernel_rfl) (by simp) ?_
  intro i hi
  simp only [List.mem_cons, List.not_mem_nil, or_false] at hi
  subst hi
  unfold wpOp
  go_simp
  left
  refine take_at (i := 7) (d := 6) (v := .tuple #[lkV o, .bool true]) rfl rfl (by kernel_rfl) (by kernel_rfl) (by kernel_rfl) (fun _ _ _ h => h) (.inl ⟨by kernel_rfl, fun U hU => by go_simp⟩) hS1 ?_
  simp only [Act.put, List.setIfInBounds_toArray, List.set_cons_zero, List.set_cons_succ]
  refine take_at (i := 8) (d := 14) (v := lkV o) rfl rfl (by kernel_rfl) (by kernel_rfl) (by kernel_rfl) (fun _ _ _ h => h) (.inl ⟨by kernel_rfl, fun U hU => by go_simp⟩) hS1 ?_
  simp only [Act.put, List.setIfInBounds_toArray, List.set_cons_zero, List.set_cons_succ]
  refine take_at (i := 9) (d := 15) (v := .bool true) rfl rfl (by kernel_rfl) (by kernel_rfl) (by kernel_rfl) (fun _ _ _ h => h) (.inl ⟨by kernel_rfl, fun U hU => by go_simp⟩) hS1 ?_
  simp only [Act.put, List.setIfInBounds_toArray, List.set_cons_zero, List.set_cons_succ]
  refine take_at (i := 10) (d := 4) (v := lkV o) rfl rfl (by kernel_rfl) (by kernel_rfl) (by kernel_rfl) (fun _ _ _ h => h) (.inl ⟨by kernel_rfl, fun U hU => by go_simp⟩) hS1 ?_
  simp only [Act.put, List.setIfInBounds_toArray, List.set_cons_zero, List.set_cons_succ]
  refine take_at (i := 11) (d := 5) (v := .bool true) rfl rfl (by kernel_rfl) (by kernel_rfl) (by kernel_rfl) (fun _ _ _ h => h) (.inl ⟨by kernel_rfl, fun U hU => by go_simp⟩) hS1 ?_
  simp only [Act.put, List.setIfInBounds_toArray, List.set_cons_zero, List.set_cons_succ]
  refine wpAnyH_done (by kernel_rfl) ?_ _
  have k1 := k0.out.below hS1 k0.out.lt
  have q3 : _ = some (Value.int .i64 h.t) := k1.cell 3
  have q4 : _ = some (Value.int .i64 h.b) := k1.cell 4
  have q6 : _ = some (Value.int .i64 h.state) := k1.cell 6
  have hlt := k1.lt
  have B1 := Lib.hid (below3 B0.out hS1)
  clear hS0 hS1 G b1 hl k1
  go_wp2_with (go_at_call 29; refine (counts_is _ _ _).mono ?_; rintro e w2 ⟨rfl, rfl⟩)
  go_ret2
  exact ⟨rfl, B1.out⟩

theorem next_3 (h : Hd) (w : World) (fk : Fit h.kind) (fp : Fit h.pc) (o : Option Nat) (ho : tblF h.kind h.pc = o) (g0 : lkB o = true) (g1 : decide (cntOk h.t (-1)) = true) (g2 : decide (cntOk h.b (-1)) = true) (g3 : ¬ 0 ≤ h.state) : Calls Try.prog 27 #[hv h] w (NextOf .nilFunc 1 w) := by
  have k1 := Bk.new w 27 (hc h)
  have B1 := (Below.refl w.heap.size w).alloc (Nat.le_refl _) (.cells (hc h) 27)
  obtain ⟨W, hW⟩ : ∃ W, w.alloc (.cells (hc h) 27) = W := ⟨_, rfl⟩
  rw [hW] at k1 B1
  unfold hc at hW
  have HW := Lib.hid hW
  have k0 := Lib.hid k1
  have B0 := Lib.hid B1
  clear hW k1 B1
  have FK := Lib.hid fk
  have FP := Lib.hid fp
  have HO := Lib.hid ho
  clear fk fp ho
  unfold hv
  go_enter Try.func27, Try.ntmps27
  go_wp2
  rw [HW.out]
  refine wp_region_held (S := fun U => Below W.heap.size W U) (by kernel_rfl) ?_
  change wpAnyH _ _ _ _ _ _ _ _ (World.drew _)
  have hS0 : Below W.heap.size W W.drew := (Below.refl _ _).drew
  refine take_at (i := 1) (d := 8) (v := .pointer (some ⟨w.heap.size, 0, none⟩)) rfl rfl (by kernel_rfl) (by kernel_rfl) (by kernel_rfl) (fun _ _ _ h => h) (.inl ⟨by kernel_rfl, fun U hU => by go_simp⟩) hS0 ?_
  simp only [Act.put, List.setIfInBounds_toArray, List.set_cons_zero, List.set_cons_succ]
  refine take_at (i := 2) (d := 9) (v := .int .i64 h.kind) rfl rfl (by kernel_rfl) (by kernel_rfl) (by kernel_rfl) (fun _ _ _ h => h) (.inl ⟨by kernel_rfl, fun U hU => by have h7 : _ = some (Value.int .i64 h.kind) := (k0.out.below hU k0.out.lt).cell 0; go_simp⟩) hS0 ?_
  simp only [Act.put, List.setIfInBounds_toArray, List.set_cons_zero, List.set_cons_succ]
  refine take_at (i := 3) (d := 10) (v := .pointer (some ⟨w.heap.size, 1, none⟩)) rfl rfl (by kernel_rfl) (by kernel_rfl) (by kernel_rfl) (fun _ _ _ h => h) (.inl ⟨by kernel_rfl, fun U hU => by go_simp⟩) hS0 ?_
  simp only [Act.put, List.setIfInBounds_toArray, List.set_cons_zero, List.set_cons_succ]
  refine take_at (i := 4) (d := 11) (v := .int .i64 h.pc) rfl rfl (by kernel_rfl) (by kernel_rfl) (by kernel_rfl) (fun _ _ _ h => h) (.inl ⟨by kernel_rfl, fun U hU => by have h7 : _ = some (Value.int .i64 h.pc) := (k0.out.below hU k0.out.lt).cell 1; go_simp⟩) hS0 ?_
  simp only [Act.put, List.setIfInBounds_toArray, List.set_cons_zero, List.set_cons_succ]
  refine take_at (i := 5) (d := 12) (v := .agg #[.int .i64 h.kind, .int .i64 h.pc]) rfl rfl (by kernel_rfl) (by kernel_rfl) (by kernel_rfl) (fun _ _ _ h => h) (.inl ⟨by kernel_rfl, fun U hU => by go_simp⟩) hS0 ?_
  simp only [Act.put, List.setIfInBounds_toArray, List.set_cons_zero, List.set_cons_succ]
  refine wpAnyH_all (rs := [0]) (by kernel_rfl) (by simp) ?_
  intro i hi
  simp only [List.mem_cons, List.not_mem_nil, or_false] at hi
  subst hi
  unfold wpOp
  go_simp
  left
  refine (accesses_any _).mono ?_
  rintro e w1 ⟨b, nn, rfl, G, b1⟩
  have hS1 := hS0.trans (b1.mono hS0.size)
  refine ⟨hS1, ?_⟩
  have hl0 := G.lookup FK.out FP.out
  rw [HO.out] at hl0
  have hl : (Instr.lookup 69 (.map (some b)) (.agg #[.int .i64 h.kind, .int .i64 h.pc]) true).run Try.prog w1 = .ok (.tuple #[lkV o, .bool (lkB o)]) w1 := by rw [hl0]; cases o <;> rfl
  clear hl0
  rw [g0] at hl
  refine wpAnyH_all (rs := [6]) (by kernel_rfl) (by simp) ?_
  intro i hi
  simp only [List.mem_cons, List.not_mem_nil, or_false] at hi
  subst hi
  unfold wpOp
  go_simp
  left
  refine take_at (i := 7) (d := 6) (v := .tuple #[lkV o, .bool true]) rfl rfl (by kernel_rfl) (by kernel_rfl) (by kernel_rfl) (fun _ _ _ h => h) (.inl ⟨by kernel_rfl, fun U hU => by go_simp⟩) hS1 ?_
  simp only [Act.put, List.setIfInBounds_toArray, List.set_cons_zero, List.set_cons_succ]
  refine take_at (i := 8) (d := 14) (v := lkV o) rfl rfl (by kernel_rfl) (by kernel_rfl) (by kernel_rfl) (fun _ _ _ h => h) (.inl ⟨by kernel_rfl, fun U hU => by go_simp⟩) hS1 ?_
  simp only [Act.put, List.setIfInBounds_toArray, List.set_cons_zero, List.set_cons_succ]
  refine take_at (i := 9) (d := 15) (v := .bool true) rfl rfl (by kernel_rfl) (by kernel_rfl) (by kernel_rfl) (fun _ _ _ h => h) (.inl ⟨by kernel_rfl, fun U hU => by go_simp⟩) hS1 ?_
  simp only [Act.put, List.setIfInBounds_toArray, List.set_cons_zero, List.set_cons_succ]
  refine take_at (i := 10) (d := 4) (v := lkV o) rfl rfl (by kernel_rfl) (by kernel_rfl) (by kernel_rfl) (fun _ _ _ h => h) (.inl ⟨by kernel_rfl, fun U hU => by go_simp⟩) hS1 ?_
  simp only [Act.put, List.setIfInBounds_toArray, List.set_cons_zero, List.set_cons_succ]
  refine take_at (i := 11) (d := 5) (v := .bool true) rfl rfl (by kernel_rfl) (by kernel_rfl) (by kernel_rfl) (fun _ _ _ h => h) (.inl ⟨by kernel_rfl, fun U hU => by go_simp⟩) hS1 ?_
  simp only [Act.put, List.setIfInBounds_toArray, List.set_cons_zero, List.set_cons_succ]
  refine wpAnyH_done (by kernel_rfl) ?_ _
  have k1 := k0.out.below hS1 k0.out.lt
  have q3 : _ = some (Value.int .i64 h.t) := k1.cell 3
  have q4 : _ = some (Value.int .i64 h.b) := k1.cell 4
  have q6 : _ = some (Value.int .i64 h.state) := k1.cell 6
  have hlt := k1.lt
  have B1 := Lib.hid (below3 B0.out hS1)
  clear hS0 hS1 G b1 hl k1
  go_wp2_with (go_at_call 29; refine (counts_is _ _ _).mono ?_; rintro e w2 ⟨rfl, rfl⟩)
  go_ret2
  exact ⟨rfl, B1.out⟩

theorem next_4 (h : Hd) (w : World) (fk : Fit h.kind) (fp : Fit h.pc) (o : Option Nat) (ho : tblF h.kind h.pc = o) (g0 : lkB o = true) (g1 : decide (cntOk h.t (-1)) = true) (g2 : decide (cntOk h.b (-1)) = true) (g3 : 0 ≤ h.state) (g4 : ¬ h.state ≤ 4) : Calls Try.prog 27 #[hv h] w (NextOf .nilFunc 1 w) := by
  have k1 := Bk.new w 27 (hc h)
  have B1 := (Below.refl w.heap.size w).alloc (Nat.le_refl _) (.cells (hc h) 27)
  obtain ⟨W, hW⟩ : ∃ W, w.alloc (.cells (hc h) 27) = W := ⟨_, rfl⟩
  rw [hW] at k1 B1
  unfold hc at hW
  have HW := Lib.hid hW
  have k0 := Lib.hid k1
  have B0 := Lib.hid B1
  clear hW k1 B1
  have FK := Lib.hid fk
  have FP := Lib.hid fp
  have HO := Lib.hid ho
  clear fk fp ho
  unfold hv
  go_enter Try.func27, Try.ntmps27
  go_wp2
  rw [HW.out]
  refine wp_region_held (S := fun U => Below W.heap.size W U) (by kernel_rfl) ?_
  change wpAnyH _ _ _ _ _ _ _ _ (World.drew _)
  have hS0 : Below W.heap.size W W.drew := (Below.refl _ _).drew
  refine take_at (i := 1) (d := 8) (v := .pointer (some ⟨w.heap.size, 0, none⟩)) rfl rfl (by kernel_rfl) (by kernel_rfl) (by kernel_rfl) (fun _ _ _ h => h) (.inl ⟨by kernel_rfl, fun U hU => by go_simp⟩) hS0 ?_
  simp only [Act.put, List.setIfInBounds_toArray, List.set_cons_zero, List.set_cons_succ]
  refine take_at (i := 2) (d := 9) (v := .int .i64 h.kind) rfl rfl (by kernel_rfl) (by kernel_rfl) (by kernel_rfl) (fun _ _ _ h => h) (.inl ⟨by kernel_rfl, fun U hU => by have h7 : _ = some (Value.int .i64 h.kind) := (k0.out.below hU k0.out.lt).cell 0; go_simp⟩) hS0 ?_
  simp only [Act.put, List.setIfInBounds_toArray, List.set_cons_zero, List.set_cons_succ]
  refine take_at (i := 3) (d := 10) (v := .pointer (some ⟨w.heap.size, 1, none⟩)) rfl rfl (by kernel_rfl) (by kernel_rfl) (by kernel_rfl) (fun _ _ _ h => h) (.inl ⟨by kernel_rfl, fun U hU => by go_simp⟩) hS0 ?_
  simp only [Act.put, List.setIfInBounds_toArray, List.set_cons_zero, List.set_cons_succ]
  refine take_at (i := 4) (d := 11) (v := .int .i64 h.pc) rfl rfl (by kernel_rfl) (by kernel_rfl) (by kernel_rfl) (fun _ _ _ h => h) (.inl ⟨by kernel_rfl, fun U hU => by have h7 : _ = some (Value.int .i64 h.pc) := (k0.out.below hU k0.out.lt).cell 1; go_simp⟩) hS0 ?_
  simp only [Act.put, List.setIfInBounds_toArray, List.set_cons_zero, List.set_cons_succ]
  refine take_at (i := 5) (d := 12) (v := .agg #[.int .i64 h.kind, .int .i64 h.pc]) rfl rfl (by kernel_rfl) (by kernel_rfl) (by kernel_rfl) (fun _ _ _ h => h) (.inl ⟨by kernel_rfl, fun U hU => by go_simp⟩) hS0 ?_
  simp only [Act.put, List.setIfInBounds_toArray, List.set_cons_zero, List.set_cons_succ]
  refine wpAnyH_all (rs := [0]) (by kernel_rfl) (by simp) ?_
  intro i hi
  simp only [List.mem_cons, List.not_mem_nil, or_false] at hi
  subst hi
  unfold wpOp
  go_simp
  left
  refine (accesses_any _).mono ?_
  rintro e w1 ⟨b, nn, rfl, G, b1⟩
  have hS1 := hS0.trans (b1.mono hS0.size)
  refine ⟨hS1, ?_⟩
  have hl0 := G.lookup FK.out FP.out
  rw [HO.out] at hl0
  have hl : (Instr.lookup 69 (.map (some b)) (.agg #[.int .i64 h.kind, .int .i64 h.pc]) true).run Try.prog w1 = .ok (.tuple #[lkV o, .bool (lkB o)]) w1 := by rw [hl0]; cases o <;> rfl
  clear hl0
  rw [g0] at hl
  refine wpAnyH_all (rs := [6]) (by kernel_rfl) (by simp) ?_
  intro i hi
  simp only [List.mem_cons, List.not_mem_nil, or_false] at hi
  subst hi
  unfold wpOp
  go_simp
  left
  refine take_at (i := 7) (d := 6) (v := .tuple #[lkV o, .bool true]) rfl rfl (by kernel_rfl) (by kernel_rfl) (by kernel_rfl) (fun _ _ _ h => h) (.inl ⟨by kernel_rfl, fun U hU => by go_simp⟩) hS1 ?_
  simp only [Act.put, List.setIfInBounds_toArray, List.set_cons_zero, List.set_cons_succ]
  refine take_at (i := 8) (d := 14) (v := lkV o) rfl rfl (by kernel_rfl) (by kernel_rfl) (by kernel_rfl) (fun _ _ _ h => h) (.inl ⟨by kernel_rfl, fun U hU => by go_simp⟩) hS1 ?_
  simp only [Act.put, List.setIfInBounds_toArray, List.set_cons_zero, List.set_cons_succ]
  refine take_at (i := 9) (d := 15) (v := .bool true) rfl rfl (by kernel_rfl) (by kernel_rfl) (by kernel_rfl) (fun _ _ _ h => h) (.inl ⟨by kernel_rfl, fun U hU => by go_simp⟩) hS1 ?_
  simp only [Act.put, List.setIfInBounds_toArray, List.set_cons_zero, List.set_cons_succ]
  refine take_at (i := 10) (d := 4) (v := lkV o) rfl rfl (by kernel_rfl) (by kernel_rfl) (by kernel_rfl) (fun _ _ _ h => h) (.inl ⟨by kernel_rfl, fun U hU => by go_simp⟩) hS1 ?_
  simp only [Act.put, List.setIfInBounds_toArray, List.set_cons_zero, List.set_cons_succ]
  refine take_at (i := 11) (d := 5) (v := .bool true) rfl rfl (by kernel_rfl) (by kernel_rfl) (by kernel_rfl) (fun _ _ _ h => h) (.inl ⟨by kernel_rfl, fun U hU => by go_simp⟩) hS1 ?_
  simp only [Act.put, List.setIfInBounds_toArray, List.set_cons_zero, List.set_cons_succ]
  refine wpAnyH_done (by kernel_rfl) ?_ _
  have k1 := k0.out.below hS1 k0.out.lt
  have q3 : _ = some (Value.int .i64 h.t) := k1.cell 3
  have q4 : _ = some (Value.int .i64 h.b) := k1.cell 4
  have q6 : _ = some (Value.int .i64 h.state) := k1.cell 6
  have hlt := k1.lt
  have B1 := Lib.hid (below3 B0.out hS1)
  clear hS0 hS1 G b1 hl k1
  go_wp2_with (go_at_call 29; refine (counts_is _ _ _).mono ?_; rintro e w2 ⟨rfl, rfl⟩)
  go_ret2
  exact ⟨rfl, B1.out⟩

theorem next_5 (h : Hd) (w : World) (fk : Fit h.kind) (fp : Fit h.pc) (o : Option Nat) (ho : tblF h.kind h.pc = o) (g0 : lkB o = true) (g1 : decide (cntOk h.t (-1)) = true) (g2 : decide (cntOk h.b (-1)) = true) (g3 : 0 ≤ h.state) (g4 : h.state ≤ 4) : Calls Try.prog 27 #[hv h] w (NextOf (lkV o) 0 w) := by
  have k1 := Bk.new w 27 (hc h)
  have B1 := (Below.refl w.heap.size w).alloc (Nat.le_refl _) (.cells (hc h) 27)
  obtain ⟨W, hW⟩ : ∃ W, w.alloc (.cells (hc h) 27) = W := ⟨_, rfl⟩
  rw [hW] at k1 B1
  unfold hc at hW
  have HW := Lib.hid hW
  have k0 := Lib.hid k1
  have B0 := Lib.hid B1
  clear hW k1 B1
  have FK := Lib.hid fk
  have FP := Lib.hid fp
  have HO := Lib.hid ho
  clear fk fp ho
  unfold hv
  go_enter Try.func27, Try.ntmps27
  go_wp2
  rw [HW.out]
  refine wp_region_held (S := fun U => Below W.heap.size W U) (by kernel_rfl) ?_
  change wpAnyH _ _ _ _ _ _ _ _ (World.drew _)
  have hS0 : Below W.heap.size W W.drew := (Below.refl _ _).drew
  refine take_at (i := 1) (d := 8) (v := .pointer (some ⟨w.heap.size, 0, none⟩)) rfl rfl (by kernel_rfl) (by kernel_rfl) (by kernel_rfl) (fun _ _ _ h => h) (.inl ⟨by kernel_rfl, fun U hU => by go_simp⟩) hS0 ?_
  simp only [Act.put, List.setIfInBounds_toArray, List.set_cons_zero, List.set_cons_succ]
  refine take_at (i := 2) (d := 9) (v := .int .i64 h.kind) rfl rfl (by kernel_rfl) (by kernel_rfl) (by kernel_rfl) (fun _ _ _ h => h) (.inl ⟨by kernel_rfl, fun U hU => by have h7 : _ = some (Value.int .i64 h.kind) := (k0.out.below hU k0.out.lt).cell 0; go_simp⟩) hS0 ?_
  simp only [Act.put, List.setIfInBounds_toArray, List.set_cons_zero, List.set_cons_succ]
  refine take_at (i := 3) (d := 10) (v := .pointer (some ⟨w.heap.size, 1, none⟩)) rfl rfl (by kernel_rfl) (by kernel_rfl) (by kernel_rfl) (fun _ _ _ h => h) (.inl ⟨by kernel_rfl, fun U hU => by go_simp⟩) hS0 ?_
  simp only [Act.put, List.setIfInBounds_toArray, List.set_cons_zero, List.set_cons_succ]
  refine take_at (i := 4) (d := 11) (v := .int .i64 h.pc) rfl rfl (by kernel_rfl) (by kernel_rfl) (by kernel_rfl) (fun _ _ _ h => h) (.inl ⟨by kernel_rfl, fun U hU => by have h7 : _ = some (Value.int .i64 h.pc) := (k0.out.below hU k0.out.lt).cell 1; go_simp⟩) hS0 ?_
  simp only [Act.put, List.setIfInBounds_toArray, List.set_cons_zero, List.set_cons_succ]
  refine take_at (i := 5) (d := 12) (v := .agg #[.int .i64 h.kind, .int .i64 h.pc]) rfl rfl (by kernel_rfl) (by kernel_rfl) (by kernel_rfl) (fun _ _ _ h => h) (.inl ⟨by kernel_rfl, fun U hU => by go_simp⟩) hS0 ?_
  simp only [Act.put, List.setIfInBounds_toArray, List.set_cons_zero, List.set_cons_succ]
  refine wpAnyH_all (rs := [0]) (by kernel_rfl) (by simp) ?_
  intro i hi
  simp only [List.mem_cons, List.not_mem_nil, or_false] at hi
  subst hi
  unfold wpOp
  go_simp
  left
  refine (accesses_any _).mono ?_
  rintro e w1 ⟨b, nn, rfl, G, b1⟩
  have hS1 := hS0.trans (b1.mono hS0.size)
  refine ⟨hS1, ?_⟩
  have hl0 := G.lookup FK.out FP.out
  rw [HO.out] at hl0
  have hl : (Instr.lookup 69 (.map (some b)) (.agg #[.int .i64 h.kind, .int .i64 h.pc]) true).run Try.prog w1 = .ok (.tuple #[lkV o, .bool (lkB o)]) w1 := by rw [hl0]; cases o <;> rfl
  clear hl0
  rw [g0] at hl
  refine wpAnyH_all (rs := [6]) (by kernel_rfl) (by simp) ?_
  intro i hi
  simp only [List.mem_cons, List.not_mem_nil, or_false] at hi
  subst hi
  unfold wpOp
  go_simp
  left
  refine take_at (i := 7) (d := 6) (v := .tuple #[lkV o, .bool true]) rfl rfl (by kernel_rfl) (by kernel_rfl) (by kernel_rfl) (fun _ _ _ h => h) (.inl ⟨by kernel_rfl, fun U hU => by go_simp⟩) hS1 ?_
  simp only [Act.put, List.setIfInBounds_toArray, List.set_cons_zero, List.set_cons_succ]
  refine take_at (i := 8) (d := 14) (v := lkV o) rfl rfl (by kernel_rfl) (by kernel_rfl) (by kernel_rfl) (fun _ _ _ h => h) (.inl ⟨by kernel_rfl, fun U hU => by go_simp⟩) hS1 ?_
  simp only [Act.put, List.setIfInBounds_toArray, List.set_cons_zero, List.set_cons_succ]
  refine take_at (i := 9) (d := 15) (v := .bool true) rfl rfl (by kernel_rfl) (by kernel_rfl) (by kernel_rfl) (fun _ _ _ h => h) (.inl ⟨by kernel_rfl, fun U hU => by go_simp⟩) hS1 ?_
  simp only [Act.put, List.setIfInBounds_toArray, List.set_cons_zero, List.set_cons_succ]
  refine take_at (i := 10) (d := 4) (v := lkV o) rfl rfl (by kernel_rfl) (by kernel_rfl) (by kernel_rfl) (fun _ _ _ h => h) (.inl ⟨by kernel_rfl, fun U hU => by go_simp⟩) hS1 ?_
  simp only [Act.put, List.setIfInBounds_toArray, List.set_cons_zero, List.set_cons_succ]
  refine take_at (i := 11) (d := 5) (v := .bool true) rfl rfl (by kernel_rfl) (by kernel_rfl) (by kernel_rfl) (fun _ _ _ h => h) (.inl ⟨by kernel_rfl, fun U hU => by go_simp⟩) hS1 ?_
  simp only [Act.put, List.setIfInBounds_toArray, List.set_cons_zero, List.set_cons_succ]
  refine wpAnyH_done (by kernel_rfl) ?_ _
  have k1 := k0.out.below hS1 k0.out.lt
  have q3 : _ = some (Value.int .i64 h.t) := k1.cell 3
  have q4 : _ = some (Value.int .i64 h.b) := k1.cell 4
  have q6 : _ = some (Value.int .i64 h.state) := k1.cell 6
  have hlt := k1.lt
  have B1 := Lib.hid (below3 B0.out hS1)
  clear hS0 hS1 G b1 hl k1
  go_wp2_with (go_at_call 29; refine (counts_is _ _ _).mono ?_; rintro e w2 ⟨rfl, rfl⟩)
  go_ret2
  exact ⟨rfl, B1.out⟩

end Go.Proofs.Ytfmiamjbhlglbaa

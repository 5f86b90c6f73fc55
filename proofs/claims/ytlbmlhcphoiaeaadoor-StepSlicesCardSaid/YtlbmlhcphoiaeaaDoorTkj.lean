/-
  Layer 12: tasks held against one another: one that is the same.
-/
import Derived.Test.YtlbmlhcphoiaeaaDoorTki
import Derived.Laws.StructEq
import Derived.ChangeKeysEq
namespace Go.Proofs.YtlbmlhcphoiaeaaDoor
open Go.RowKit

theorem task_stood : Tryd.prog.stoodInHeld 24 = false := by kernel_rfl
theorem task_guard : Tryd.prog.eqGuardType Tryd.prog.depth 24 = false := by kernel_rfl
theorem info_i64 : ∃ i, Tryd.prog.info? 2 = some i := ⟨_, rfl⟩
theorem cells_i64 : Tryd.prog.cellsOf 2 = 1 := by kernel_rfl
theorem keeps_same (d : Nat) (a b c e : Int) (W : World) : (Op.equalIn (d + 2) 22 (.agg #[.int .i64 a, .int .i64 b, .int .i64 c, .int .i64 e]) (.agg #[.int .i64 a, .int .i64 b, .int .i64 c, .int .i64 e])).run Tryd.prog W = .ok true W := by
  obtain ⟨i, hi⟩ := info_i64
  rw [run_equalIn_array W (d + 1) _ _ Tryd.underlying22 hi, cells_i64]
  have r4 : List.range 4 = [0, 1, 2, 3] := by decide
  simp [r4, Op.eqItems, go_sem, Tryd.underlying2]
theorem task_same (x : Tk) (W : World) : (Op.equalIn 10000 24 (.agg (tc x)) (.agg (tc x))).run Tryd.prog W = .ok true W := by
  unfold tc
  rw [run_equalIn_struct (d := 9999) W 24 _ _ (by simp [Program.fieldsOf, Tryd.underlying24]) task_stood]
  simp [Program.fieldsOf, Tryd.underlying24]
  simp [Op.eqFields, go_sem, keeps_same 9997]
theorem eql_task (x : Tk) (W : World) : (binOp .eql 24 (.agg (tc x)) (.agg (tc x))).run Tryd.prog W = .ok (.bool true) W := by
  rw [run_eql_struct, task_same]; rfl
theorem neq_task (x : Tk) (W : World) : (binOp .neq 24 (.agg (tc x)) (.agg (tc x))).run Tryd.prog W = .ok (.bool false) W := by
  rw [run_neq_struct, task_same]; rfl
theorem guard_task (op : BinOp) (x y : Operand) (a b : Array Value) (W : World) : (eqGuard op 24 x y (.agg a) (.agg b)).run Tryd.prog W = .ok () W := run_eqGuard_agg W op 24 x y a b task_guard

end Go.Proofs.YtlbmlhcphoiaeaaDoor

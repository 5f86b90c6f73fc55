/-
  For RingSteps (layer 7): hands held against one another; Start, both.
-/
import Derived.Test.YtfmiamjbhlglbaaSo
import Derived.Test.YtfmiamjbhlglbaaSm
import Derived.Laws.StructEq
namespace Go.Proofs.Ytfmiamjbhlglbaa
open Go.RowKit
theorem hand_stood : Try.prog.stoodInHeld 27 = false := by kernel_rfl
theorem hand_guard : Try.prog.eqGuardType Try.prog.depth 27 = false := by kernel_rfl
theorem eql_hand (k p v t b : Int) (wn : Bool) (s : Int) (W : World) : (binOp .eql 27 (.agg #[.int .i64 k, .int .i64 p, .int .i64 v, .int .i64 t, .int .i64 b, .bool wn, .int .i64 s]) (.agg #[.int .i64 k, .int .i64 p, .int .i64 v, .int .i64 t, .int .i64 b, .bool wn, .int .i64 s])).run Try.prog W = .ok (.bool true) W := by
  rw [run_eql_struct, run_equalIn_struct (d := 9999) W 27 _ _ (by simp [Program.fieldsOf, Try.underlying27]) hand_stood]
  simp [Program.fieldsOf, Try.underlying27]
  simp [Op.eqFields, go_sem]
theorem guard_hand (x y : Operand) (a b : Array Value) (W : World) : (eqGuard .eql 27 x y (.agg a) (.agg b)).run Try.prog W = .ok () W := run_eqGuard_agg W .eql 27 x y a b hand_guard
theorem start_both (k v : Int) (fk : Fit k) : ∃ p e, ∀ w, Calls Try.prog 12 #[.int .i64 k, .int .i64 v] w (RetB (.tuple #[hv p, .int .i64 e]) w) ∧ Calls Try.prog 13 #[.int .i64 k, .int .i64 v] w (RetB (.tuple #[hv p, .int .i64 e]) w) := by
  by_cases h : 0 < pcsF k
  · refine ⟨newH k v, 0, fun w => ⟨?_, ?_⟩⟩
    · have := start2_any k v w fk
      rw [if_pos h, if_pos h] at this
      exact this
    · have := start_any k v w
      rw [if_pos h, if_pos h] at this
      exact this
  · refine ⟨noH, 1, fun w => ⟨?_, ?_⟩⟩
    · have := start2_any k v w fk
      rw [if_neg h, if_neg h] at this
      exact this
    · have := start_any k v w
      rw [if_neg h, if_neg h] at this
      exact this
theorem OwnI.inside {E : TypeId} {w : World} {B : Nat} {A : Option Addr} {c : Nat} {zs : List Int} (h : OwnI E w B A c zs) : ∀ a, A = some a → a.block < w.heap.size := by
  rintro a rfl
  rcases h.2.2.2 with ⟨e1, -⟩ | ⟨g, cap, cur, e1, -, hh, -⟩
  · cases e1
  · injection e1 with e1 _ _
    injection e1 with e1
    subst e1
    exact (Array.getElem?_eq_some_iff.1 hh).1
theorem fit_wrap (z : Int) : Fit (IntKind.i64.wrap z) := by rw [IntKind.wrap_i64]; unfold Fit; omega

end Go.Proofs.Ytfmiamjbhlglbaa

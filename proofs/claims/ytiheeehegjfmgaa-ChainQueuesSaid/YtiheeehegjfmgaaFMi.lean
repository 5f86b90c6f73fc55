/-
  A map from int to bool of the call's own, read as a function: made, kept, looked up, updated.
-/
import Derived.Test.YtiheeehegjfmgaaCp
import Derived.Maps.OwnSet
import Derived.Maps.Views
namespace Go.Proofs.Ytiheeehegjfmgaa
open Go.RowKit Go.Maps

/-- A function, at one place another one. -/
def upd (f : Int → Bool) (x : Int) (v : Bool) (y : Int) : Bool := if y = x then v else f y

theorem Try.zeroBool (w : World) : (zeroValue 4).run Try.prog w = .ok (.bool false) w := by kernel_rfl
theorem Try.lawInt : Keyed Try.prog 3 := int_keyed Try.underlying3
theorem keyInt {x : Int} (h : Fit x) : keyOf Try.prog 3 (.int .i64 x) = some (.int .i64 x) := keyOf_int_mk Try.underlying3 (wf_of_fit h)

/-- In block b lies a map that reads as f (n entries at the most). -/
def FMap (w : World) (b n : Nat) (f : Int → Bool) : Prop :=
  ∃ D : DataW Unit, w.ownsMap Try.prog 3 (plainElem Try.prog 4) b n D ∧ ∀ x, D.atKey (.int .i64 x) (.lit (.bool false)) = .lit (.bool (f x))

section
variable {w w' : World} {b n : Nat} {f : Int → Bool}
theorem FMap.made (w : World) : FMap (w.alloc (.map #[] 0)) w.heap.size 0 fun _ => false :=
  ⟨.map [], World.ownsMap_made w _ _ _, fun _ => rfl⟩
theorem FMap.grown (h : FMap w b n f) {row : Option Nat} (hg : w.grownBy w' row) (hne : some b ≠ row) : FMap w' b n f := by
  obtain ⟨D, hD, hf⟩ := h
  exact ⟨D, hD.kept hg hne, hf⟩
theorem FMap.below (h : FMap w b n f) (hb : Below w.heap.size w w') : FMap w' b n f :=
  h.grown (row := none) ⟨hb.os, hb.tape, hb.output, hb.size, fun k hk _ => hb.block k hk⟩ (by simp)
theorem FMap.lt (h : FMap w b n f) : b < w.heap.size := by obtain ⟨D, hD, _⟩ := h; exact hD.lt
theorem FMap.setCell (h : FMap w b n f) {p : Addr} (hp : b ≠ p.block) (u : Value) : FMap (w.setCell p u) b n f := by
  obtain ⟨D, hD, hf⟩ := h
  exact ⟨D, hD.setCell hp u, hf⟩

theorem plainElem_bool_inv {v : Value} {z : DataW Unit × List MemPlace} (h : plainElem Try.prog 4 v = some z) : ∃ x, v = .bool x ∧ z = (.lit (.bool x), []) := by
  unfold plainElem at h
  rw [Try.underlying4] at h
  cases v <;> simp at h
  exact ⟨_, rfl, h.symm⟩

theorem FMap.lookup (h : FMap w b n f) {x : Int} (hx : Fit x) : (Instr.lookup 67 (.map (some b)) (.int .i64 x) false).run Try.prog w = .ok (.bool (f x)) w := by
  obtain ⟨D, hD, hf⟩ := h
  obtain ⟨v, ps, hrun, hv⟩ := hD.lookup Try.lawInt Try.underlying67 (Try.zeroBool w) (plainElem_bool Try.underlying4 false) (keyInt hx)
  obtain ⟨y, rfl, hy⟩ := plainElem_bool_inv hv
  simp only [Prod.mk.injEq] at hy
  rw [hf x] at hy
  have : f x = y := by injection hy.1 with e; injection e
  rw [hrun, this]

theorem FMap.update (h : FMap w b n f) {x : Int} (hx : Fit x) (v : Bool) (hn : n < 100000) : ∃ w', (Instr.mapUpdate 67 (.map (some b)) (.int .i64 x) (.bool v)).run Try.prog w = .ok () w' ∧ FMap w' b (n + 1) (upd f x v) ∧ w.grownBy w' (some b) := by
  obtain ⟨D, hD, hf⟩ := h
  obtain ⟨w', hrun, h1, h2⟩ := hD.update Try.lawInt Try.underlying67 (by unfold maxLen; omega) (keyInt hx) (plainElem_bool Try.underlying4 v)
  refine ⟨w', hrun, ⟨_, h1, fun y => ?_⟩, h2⟩
  by_cases e : y = x
  · subst e
    rw [atKey_put_same hD.isMap (by trivial)]; simp [upd]
  · rw [atKey_put_other (by intro e'; injection e' with _ e'; exact e e'), hf y]; simp [upd, e]
end

end Go.Proofs.Ytiheeehegjfmgaa

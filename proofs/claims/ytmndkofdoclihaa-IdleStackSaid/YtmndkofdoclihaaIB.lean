/-
  Rows of bools and of numbers side by side, and append at an operation of a region that draws its order: over no program.
-/
import Derived.Test.YtmndkofdoclihaaFlag
import Derived.Test.YtmndkofdoclihaaKit
import Derived.OrdersHeld
namespace Go.Proofs.Ytmndkofdoclihaa
open Go.RowKit

theorem OwnB.base {E : TypeId} {w : World} {base base' : Nat} {B : Option Addr} {d : Nat} {zs : List Bool} (h : OwnB E w base B d zs) (hb : base' ≤ base) : OwnB E w base' B d zs := by
  obtain ⟨h1, h2⟩ := (show w.ownsRow base E 1 (.slice B zs.length d) zs.length (zs.map Value.bool) from h)
  refine ⟨h1, ?_⟩
  rcases h2 with h2 | ⟨g, cap, cur, e, hg, r⟩
  · exact .inl h2
  · exact .inr ⟨g, cap, cur, e, by omega, r⟩
theorem OwnB.made (E : TypeId) (base : Nat) (w : World) (hb : base ≤ w.heap.size := by exact Nat.le_refl _) : OwnB E (w.alloc (.cells #[] E)) base (some ⟨w.heap.size, 0, none⟩) 0 [] :=
  World.ownsRow_made w #[] 0 hb (by unfold maxLen; omega) (by simp)

theorem OwnB.far {E : TypeId} {w : World} {base : Nat} {A : Option Addr} {c : Nat} {zs : List Bool} (h : OwnB E w base A c zs) {p : Addr} (hp : p.block < base) (u : Value) : OwnB E (w.setCell p u) base A c zs :=
  ownsRow_setCell_other h (fun e => by have := h.block _ e; omega) u

theorem OwnB.grown {E : TypeId} {w w' : World} {base : Nat} {B : Option Addr} {d : Nat} {zs : List Bool} {row : Option Nat} (h : OwnB E w base B d zs) (hg : w.grownBy w' row) (hne : (Value.slice B zs.length d).ownBlock = none ∨ (Value.slice B zs.length d).ownBlock ≠ row) : OwnB E w' base B d zs :=
  World.ownsRow.kept h hg hne
theorem OwnI.grown {E : TypeId} {w w' : World} {base : Nat} {B : Option Addr} {d : Nat} {zs : List Int} {row : Option Nat} (h : OwnI E w base B d zs) (hg : w.grownBy w' row) (hne : (Value.slice B zs.length d).ownBlock = none ∨ (Value.slice B zs.length d).ownBlock ≠ row) : OwnI E w' base B d zs :=
  ⟨h.1, h.2.1, World.ownsRow.kept h.2.2 hg hne⟩

/-- Rows of different elements lie in blocks of their own. -/
theorem rowsIB_ne {E E' : TypeId} {w : World} {b b' : Nat} {A A' : Option Addr} {c c' : Nat} {xs : List Int} {ys : List Bool} (h : OwnI E w b A c xs) (h' : OwnB E' w b' A' c' ys) (hne : E ≠ E') {n n' d d' : Nat} :
    ((Value.slice A n d).ownBlock = none ∨ (Value.slice A n d).ownBlock ≠ (Value.slice A' n' d').ownBlock) ∧ ((Value.slice A' n' d').ownBlock = none ∨ (Value.slice A' n' d').ownBlock ≠ (Value.slice A n d).ownBlock) := by
  rcases h.2.2.2 with ⟨e, -⟩ | ⟨g, cap, cur, e, -, hh, -⟩
  · injection e with e _ _
    subst e
    refine ⟨.inl (by simp [Value.ownBlock]), ?_⟩
    cases A' <;> simp [Value.ownBlock]
  · injection e with e _ _
    subst e
    rcases (show w.ownsRow b' E' 1 (.slice A' ys.length c') ys.length (ys.map Value.bool) from h').2 with ⟨e', -⟩ | ⟨g', cap', cur', e', -, hh', -⟩
    · injection e' with e' _ _
      subst e'
      simp [Value.ownBlock]
    · injection e' with e' _ _
      subst e'
      have : g ≠ g' := by
        rintro rfl
        rw [hh] at hh'
        simp at hh'
        exact hne hh'.2
      exact ⟨.inr (by simpa [Value.ownBlock] using this), .inr (by simpa [Value.ownBlock] using this.symm)⟩

theorem flags1 (w : World) (E : TypeId) (x : Bool) : Flags (w.alloc (.cells #[.bool x] E)) (some ⟨w.heap.size, 0, none⟩) 1 [x] := by
  refine ⟨rfl, by omega, fun _ => ⟨w.heap.size, 0, rfl, by simp, fun j hj => ?_⟩⟩
  obtain rfl : j = 0 := by omega
  rw [World.cell?_alloc_at _ _ _ _ rfl]
  rfl

theorem own_apart {g : Nat} {v : Value} (h : ∀ k, v.ownBlock = some k → g + 1 ≤ k) {b : Nat} (hb : b ≤ g) : some b ≠ v.ownBlock := fun e => by have := h b e.symm; omega

/-- append, at an operation of a region that draws its order, by its run. -/
theorem wpOp_append {P : Program} {ops : Array Oper} {Q : Exit → Act → World → Prop} {i : Nat} {K : Act → World → Prop} {a : Act} {w w' : World} {o : Oper} (s x : Operand) (t : TypeId) (v sv xv : Value) (hi : ops[i]? = some o) (hw : Region.wanted o (yielded ops a.tmps) = true)
    (ho : o.op = .call { callee := .builtin .append, args := #[s, x], argTypes := #[t, t] }) (hs : a.eval s = sv) (hx : a.eval x = xv) (hr : (Builtin.append_ #[t, t] o.type #[sv, xv]).run P w = .ok v w') (h : K (a.put o.dst v) w') : wpOp P ops Q i K a w := by
  unfold wpOp
  simp only [hi, hw, if_true]
  left
  unfold Oper.wp execOp
  simp only [ho, resolve, invoke, builtin, Sem.run_bind, Sem.run_pure, Result.andThen_ok, List.map_toArray, List.map_cons, List.map_nil, hs, hx, hr]
  exact h

end Go.Proofs.Ytmndkofdoclihaa

/-
  Variables that hold places of the caller's own: how they are laid, kept, and stored into.
-/
import Derived.Test.YtfaajimmammfdaaPt
namespace Go.Proofs.Ytfaajimmammfdaa
open Go.RowKit

theorem OwnI.offBk {E T : TypeId} {w : World} {base g : Nat} {A : Option Addr} {c : Nat} {zs : List Int} {cs : Array Value} (h : OwnI E w base A c zs) (k : Bk w g T cs) (hne : E ≠ T) (i : Nat) (u : Value) : OwnI E (w.setCell ⟨g, i, none⟩ u) base A c zs := by
  refine ⟨h.1, h.2.1, ownsRow_setCell_other h.2.2 ?_ _⟩
  intro e
  rcases h.2.2.2 with ⟨e', -⟩ | ⟨g', cap, cur, e', -, hh, -⟩
  · rw [e'] at e; simp [Value.ownBlock] at e
  · rw [e'] at e
    simp [Value.ownBlock] at e
    subst e
    rw [show w.heap[g']? = _ from k] at hh
    simp at hh
    exact hne hh.2.symm
theorem OwnB.offBk {E T : TypeId} {w : World} {base g : Nat} {A : Option Addr} {c : Nat} {zs : List Bool} {cs : Array Value} (h : OwnB E w base A c zs) (k : Bk w g T cs) (hne : E ≠ T) (i : Nat) (u : Value) : OwnB E (w.setCell ⟨g, i, none⟩ u) base A c zs := by
  refine ownsRow_setCell_other h ?_ _
  intro e
  rcases (show w.ownsRow base E 1 (.slice A zs.length c) zs.length (zs.map Value.bool) from h).2 with ⟨e', -⟩ | ⟨g', cap, cur, e', -, hh, -⟩
  · rw [e'] at e; simp [Value.ownBlock] at e
  · rw [e'] at e
    simp [Value.ownBlock] at e
    subst e
    rw [show w.heap[g']? = _ from k] at hh
    simp at hh
    exact hne hh.2.symm
theorem OwnP.offBk {w : World} {base g c d : Nat} {A B : Option Addr} {gs : List Int} {ls : List Bool} {cs : Array Value} (h : OwnP w base A c B d gs ls) (k : Bk w g 25 cs) (i : Nat) (u : Value) : OwnP (w.setCell ⟨g, i, none⟩ u) base A c B d gs ls :=
  ⟨h.g.offBk k (by decide) i u, h.l.offBk k (by decide) i u, h.s⟩

/-- A variable that holds places of the caller's own, in block g. -/
structure PV (W w : World) (g : Nat) (A : Option Addr) (n c : Nat) (B : Option Addr) (m d : Nat) (gs : List Int) (ls : List Bool) : Prop where
  box : Bk w g 25 #[.slice A n c, .slice B m d]
  own : OwnP w W.heap.size A c B d gs ls
  ln : gs.length = n
  lm : ls.length = m
  lt : W.heap.size ≤ g
  below : Below W.heap.size W w

section
variable {W w w' : World} {g n m c d n' m' c' d' : Nat} {A B A' B' : Option Addr} {gs gs' : List Int} {ls ls' : List Bool}
theorem PV.plc (h : PV W w g A n c B m d gs ls) : Plc w A n B m gs ls := by
  have := h.own.plc
  rwa [h.ln, h.lm] at this
theorem PV.call (h : PV W w g A n c B m d gs ls) (hb : Below w.heap.size w w') : PV W w' g A n c B m d gs ls :=
  ⟨h.box.below hb h.box.lt, h.own.below hb, h.ln, h.lm, h.lt, below3 h.below hb⟩
theorem PV.var (h : PV W w g A n c B m d gs ls) (X : Obj) : PV W (w.alloc X) g A n c B m d gs ls := h.call ((Below.refl _ _).alloc (Nat.le_refl _) X)
/-- What a call has handed back is laid into a new variable. -/
theorem PV.new (hW : Below W.heap.size W w) (hb : Below w.heap.size w w') (ho : OwnP w' w.heap.size A c B d gs ls) (ln : gs.length = n) (lm : ls.length = m) :
    PV W (w'.alloc (.cells #[.slice A n c, .slice B m d] 25)) w'.heap.size A n c B m d gs ls :=
  ⟨Bk.new w' _ _, (ho.base hW.size).below ((Below.refl _ _).alloc (Nat.le_refl _) _), ln, lm, Nat.le_trans hW.size hb.size, (below3 hW hb).alloc (below3 hW hb).size _⟩
/-- What a call has handed back is stored into the variable. -/
theorem PV.store (h : PV W w g A n c B m d gs ls) (hb : Below w.heap.size w w') (ho : OwnP w' w.heap.size A' c' B' d' gs' ls') (ln : gs'.length = n') (lm : ls'.length = m') :
    PV W ((w'.setCell ⟨g, 0, none⟩ (.slice A' n' c')).setCell ⟨g, 1, none⟩ (.slice B' m' d')) g A' n' c' B' m' d' gs' ls' := by
  have hk := h.box.below hb h.box.lt
  have hk1 := hk.set_ 0 (.slice A' n' c')
  refine ⟨?_, (ho.offBk hk 0 (.slice A' n' c')).offBk hk1 1 (.slice B' m' d') |>.base h.below.size, ln, lm, h.lt, ((below3 h.below hb).setCell (p := ⟨g, 0, none⟩) h.lt _).setCell (p := ⟨g, 1, none⟩) h.lt _⟩
  have := hk1.set_ 1 (.slice B' m' d')
  simpa using this
end

end Go.Proofs.Ytfaajimmammfdaa

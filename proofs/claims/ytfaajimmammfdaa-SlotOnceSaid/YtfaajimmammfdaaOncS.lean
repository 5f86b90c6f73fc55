/-
  What lies there in SlotOnce's loop: the places, two maps, and the ids that were given: how it is kept.
-/
import Derived.Test.YtfaajimmammfdaaFMap
import Derived.Test.YtfaajimmammfdaaVar
namespace Go.Proofs.Ytfaajimmammfdaa
open Go.RowKit

/-- The state: places in block g, the maps in bg and be, the ids in a row behind. -/
structure OnS (W w : World) (g bg be n : Nat) (A : Option Addr) (c : Nat) (B : Option Addr) (d : Nat) (gs : List Int) (ls : List Bool) (k : Nat) (f ev : Int → Bool) (Aa : Option Addr) (ca : Nat) (all : List Int) : Prop where
  var : PV W w g A n c B n d gs ls
  fg : FMap w bg k f
  fe : FMap w be k ev
  al : OwnI 2 w (be + 1) Aa ca all
  h1 : g < bg
  h2 : bg < be

/-- .. while new places lie in block r. -/
structure OnT (W : World) (H : Nat) (w : World) (g bg be r n : Nat) (x y : Value) (A : Option Addr) (c : Nat) (B : Option Addr) (d : Nat) (gs : List Int) (ls : List Bool) (kg ke : Nat) (f ev : Int → Bool) (Aa : Option Addr) (ca : Nat) (all : List Int) : Prop where
  box : Bk w g 25 #[x, y]
  nxt : Bk w r 25 #[.slice A n c, .slice B n d]
  own : OwnP w H A c B d gs ls
  fg : FMap w bg kg f
  fe : FMap w be ke ev
  al : OwnI 2 w (be + 1) Aa ca all
  h1 : g < bg
  h2 : bg < be
  h3 : be < H
  h4 : H ≤ r
  ln : gs.length = n
  lm : ls.length = n
  lt : W.heap.size ≤ g
  below : Below W.heap.size W w

theorem not_row {v : Value} {H : Nat} {row : Option Nat} (h : ∀ k, v.ownBlock = some k → H ≤ k) (hr : ∀ k, row = some k → k < H) : v.ownBlock = none ∨ v.ownBlock ≠ row := by
  cases e : v.ownBlock with
  | none => exact .inl rfl
  | some k =>
    refine .inr fun e' => ?_
    have := h k e
    have := hr k e'.symm
    omega
theorem OwnP.grownLt {w w' : World} {H c d : Nat} {A B : Option Addr} {gs : List Int} {ls : List Bool} {row : Option Nat} (h : OwnP w H A c B d gs ls) (hg : w.grownBy w' row) (hr : ∀ k, row = some k → k < H) : OwnP w' H A c B d gs ls :=
  ⟨h.g.grown hg (not_row h.g.block hr), h.l.grown hg (not_row h.l.block hr), h.s⟩

section
variable {W w w' : World} {g bg be n k : Nat} {A : Option Addr} {c : Nat} {B : Option Addr} {d : Nat} {gs : List Int} {ls : List Bool} {f ev : Int → Bool} {Aa : Option Addr} {ca : Nat} {all : List Int}
theorem OnS.call (S : OnS W w g bg be n A c B d gs ls k f ev Aa ca all) (hb : Below w.heap.size w w') : OnS W w' g bg be n A c B d gs ls k f ev Aa ca all :=
  ⟨S.var.call hb, S.fg.below hb, S.fe.below hb, S.al.below hb, S.h1, S.h2⟩
theorem OnS.more (S : OnS W w g bg be n A c B d gs ls k f ev Aa ca all) : OnS W w g bg be n A c B d gs ls (k + 1) f ev Aa ca all := by
  obtain ⟨D, hD, hf⟩ := S.fg
  obtain ⟨E, hE, he⟩ := S.fe
  exact ⟨S.var, ⟨D, hD.mono (Nat.le_succ k), hf⟩, ⟨E, hE.mono (Nat.le_succ k), he⟩, S.al, S.h1, S.h2⟩

/-- New places are handed back, and laid into a new variable. -/
theorem OnS.begin (S : OnS W w g bg be n A c B d gs ls k f ev Aa ca all) {A' B' : Option Addr} {c' d' : Nat} {gs' : List Int} {ls' : List Bool} (hb : Below w.heap.size w w') (ho : OwnP w' w.heap.size A' c' B' d' gs' ls') (ln : gs'.length = n) (lm : ls'.length = n) :
    OnT W w.heap.size (w'.alloc (.cells #[.slice A' n c', .slice B' n d'] 25)) g bg be w'.heap.size n (.slice A n c) (.slice B n d) A' c' B' d' gs' ls' k k f ev Aa ca all := by
  have ha := (Below.refl w'.heap.size w').alloc (Nat.le_refl _) (.cells #[.slice A' n c', .slice B' n d'] 25)
  have hx := hb.alloc hb.size (.cells #[.slice A' n c', .slice B' n d'] 25)
  exact ⟨S.var.box.below hx S.var.box.lt, Bk.new w' _ _, ho.below ha, S.fg.below hx, S.fe.below hx, S.al.below hx, S.h1, S.h2, S.fe.lt, hb.size, ln, lm, S.var.lt, below3 S.var.below hx⟩

variable {H r kg ke : Nat} {x y : Value}
theorem OnT.updE (T : OnT W H w g bg be r n x y A c B d gs ls kg ke f ev Aa ca all) (hg : w.grownBy w' (some be)) {ev' : Int → Bool} (hf : FMap w' be (ke + 1) ev') : OnT W H w' g bg be r n x y A c B d gs ls kg (ke + 1) f ev' Aa ca all := by
  have := T.h1
  have := T.h2
  have := T.h3
  have := T.h4
  have := T.lt
  exact ⟨T.box.grown hg (by simp; omega), T.nxt.grown hg (by simp; omega), T.own.grownLt hg (fun k e => by injection e; omega), T.fg.grown hg (by simp; omega), hf,
    T.al.grown hg (not_row T.al.block (fun k e => by injection e; omega)), T.h1, T.h2, T.h3, T.h4, T.ln, T.lm, T.lt, T.below.grown hg T.below.size (fun k e => by injection e; omega)⟩
theorem OnT.updG (T : OnT W H w g bg be r n x y A c B d gs ls kg ke f ev Aa ca all) (hg : w.grownBy w' (some bg)) {f' : Int → Bool} (hf : FMap w' bg (kg + 1) f') : OnT W H w' g bg be r n x y A c B d gs ls (kg + 1) ke f' ev Aa ca all := by
  have := T.h1
  have := T.h2
  have := T.h3
  have := T.h4
  have := T.lt
  exact ⟨T.box.grown hg (by simp; omega), T.nxt.grown hg (by simp; omega), T.own.grownLt hg (fun k e => by injection e; omega), hf, T.fe.grown hg (by simp; omega),
    T.al.grown hg (not_row T.al.block (fun k e => by injection e; omega)), T.h1, T.h2, T.h3, T.h4, T.ln, T.lm, T.lt, T.below.grown hg T.below.size (fun k e => by injection e; omega)⟩
theorem OnT.app (T : OnT W H w g bg be r n x y A c B d gs ls kg ke f ev Aa ca all) {Y : Obj} {row : Option Nat} (hg : (w.alloc Y).grownBy w' row) (hlo : ∀ k, row = some k → be + 1 ≤ k) (hhi : ∀ k, row = some k → k < H) {A' : Option Addr} {c' : Nat} {all' : List Int}
    (ho : OwnI 2 w' (be + 1) A' c' all') : OnT W H w' g bg be r n x y A c B d gs ls kg ke f ev A' c' all' := by
  have := T.h1
  have := T.h2
  have := T.h3
  have := T.h4
  have := T.lt
  have ha := (Below.refl w.heap.size w).alloc (Nat.le_refl _) Y
  have hx := T.below.alloc T.below.size Y
  exact ⟨(T.box.alloc Y).grown hg (fun e => by have := hlo g e.symm; omega), (T.nxt.alloc Y).grown hg (fun e => by have := hhi r e.symm; omega), (T.own.below ha).grownLt hg hhi, (T.fg.below ha).grown hg (fun e => by have := hlo bg e.symm; omega), (T.fe.below ha).grown hg (fun e => by have := hlo be e.symm; omega),
    ho, T.h1, T.h2, T.h3, T.h4, T.ln, T.lm, T.lt, hx.grown hg hx.size (fun k e => by have := hlo k e; omega)⟩
theorem OnT.moreE (T : OnT W H w g bg be r n x y A c B d gs ls kg ke f ev Aa ca all) : OnT W H w g bg be r n x y A c B d gs ls kg (ke + 1) f ev Aa ca all := by
  obtain ⟨E, hE, he⟩ := T.fe
  exact ⟨T.box, T.nxt, T.own, T.fg, ⟨E, hE.mono (Nat.le_succ ke), he⟩, T.al, T.h1, T.h2, T.h3, T.h4, T.ln, T.lm, T.lt, T.below⟩
theorem OnI_lt {E : TypeId} {w : World} {base : Nat} {A : Option Addr} {c : Nat} {zs : List Int} (h : OwnI E w base A c zs) {n d : Nat} : ∀ k, (Value.slice A n d).ownBlock = some k → k < w.heap.size := by
  intro k hk
  refine (h.2.2.lt k ?_).2
  cases A with
  | none => simp [Value.ownBlock] at hk
  | some ad => simpa [Value.ownBlock] using hk
theorem OnT.store (T : OnT W H w g bg be r n x y A c B d gs ls k k f ev Aa ca all) : OnS W ((w.setCell ⟨g, 0, none⟩ (.slice A n c)).setCell ⟨g, 1, none⟩ (.slice B n d)) g bg be n A c B d gs ls k f ev Aa ca all := by
  have h1 := T.h1
  have h2 := T.h2
  have h3 := T.h3
  have hlt := T.lt
  have hk1 := T.box.set_ 0 (.slice A n c)
  have hk2 := hk1.set_ 1 (.slice B n d)
  refine ⟨⟨by simpa using hk2, (((T.own.far (p := ⟨g, 0, none⟩) (by simp; omega) _).far (p := ⟨g, 1, none⟩) (by simp; omega) _)).base (by omega), T.ln, T.lm, T.lt, (T.below.setCell (p := ⟨g, 0, none⟩) T.lt _).setCell (p := ⟨g, 1, none⟩) T.lt _⟩,
    (T.fg.setCell (p := ⟨g, 0, none⟩) (by simp; omega) _).setCell (p := ⟨g, 1, none⟩) (by simp; omega) _, (T.fe.setCell (p := ⟨g, 0, none⟩) (by simp; omega) _).setCell (p := ⟨g, 1, none⟩) (by simp; omega) _,
    (T.al.far (p := ⟨g, 0, none⟩) (by simp; omega) _).far (p := ⟨g, 1, none⟩) (by simp; omega) _, T.h1, T.h2⟩
end

end Go.Proofs.Ytfaajimmammfdaa

/-
  Layer 17: workers of the call's own, what calls hand back, blocks of two and of four cells. Over no program.
-/
import Derived.Test.YtmndkofdoclihaaWow
import Derived.Test.YtmndkofdoclihaaRows
import Derived.Test.YtmndkofdoclihaaLies
import Derived.Test.YtmndkofdoclihaaIB
namespace Go.Proofs.Ytmndkofdoclihaa
open Go.RowKit

theorem Try.intInfo17 : (Try.prog.info? 3).map (fun i => (i.zero, i.size, i.bytes)) = some (some (.int .i64 0), 1, 8) := by kernel_rfl

def blkW (A : Option Addr) : Option Nat := (Value.slice A 0 0).ownBlock
theorem blk_anyW (A : Option Addr) (n c : Nat) : (Value.slice A n c).ownBlock = blkW A := by cases A <;> rfl

/-- Workers of the call's own, whose rows lie apart: the second one was made behind the first one. -/
structure OwnW (w : World) (base : Nat) (A : Option Addr) (a : Nat) (B : Option Addr) (b : Nat) (is st : List Int) : Prop where
  i : OwnI 3 w base A a is
  sx : ∃ mid, base ≤ mid ∧ OwnI 3 w mid B b st ∧ ∀ k, blkW A = some k → k < mid
theorem OwnI.blkW_lt {E : TypeId} {w : World} {base : Nat} {A : Option Addr} {c : Nat} {zs : List Int} (h : OwnI E w base A c zs) : ∀ k, blkW A = some k → base ≤ k ∧ k < w.heap.size := fun k e => h.que.block (n := 0) (d := 0) k e
theorem OwnI.otherW {E : TypeId} {w : World} {base : Nat} {A : Option Addr} {g : Nat} {j : Nat} {c : Nat} {zs : List Int} (h : OwnI E w base A c zs) (hne : blkW A ≠ some g) (v : Value) : OwnI E (w.setCell ⟨g, j, none⟩ v) base A c zs :=
  ⟨h.1, h.2.1, ownsRow_setCell_other h.2.2 (fun e => hne (by rw [← blk_anyW A zs.length c]; exact e)) v⟩
section
variable {w w' : World} {base : Nat} {A B : Option Addr} {a b : Nat} {is st : List Int}
theorem OwnW.s (h : OwnW w base A a B b is st) : OwnI 3 w base B b st := by
  obtain ⟨m, h1, h2, -⟩ := h.sx
  exact h2.base h1
theorem OwnW.ap (h : OwnW w base A a B b is st) : ∀ k, blkW A = some k → blkW B ≠ some k := fun k e e' => by
  obtain ⟨m, -, h2, h3⟩ := h.sx
  have := h3 k e
  have := (h2.blkW_lt k e').1
  omega
theorem OwnW.below (h : OwnW w base A a B b is st) (hb : Below w.heap.size w w') : OwnW w' base A a B b is st := by
  obtain ⟨m, h1, h2, h3⟩ := h.sx
  exact ⟨h.i.below hb, m, h1, h2.below hb, h3⟩
theorem OwnW.base_ {base' : Nat} (h : OwnW w base A a B b is st) (hb : base' ≤ base) : OwnW w base' A a B b is st := by
  obtain ⟨m, h1, h2, h3⟩ := h.sx
  exact ⟨h.i.base hb, m, Nat.le_trans hb h1, h2, h3⟩
theorem OwnW.far (h : OwnW w base A a B b is st) {p : Addr} (hp : p.block < base) (v : Value) : OwnW (w.setCell p v) base A a B b is st := by
  obtain ⟨m, h1, h2, h3⟩ := h.sx
  exact ⟨h.i.far hp v, m, h1, h2.far (Nat.lt_of_lt_of_le hp h1) v, h3⟩
/-- A block that was made behind both. -/
theorem OwnW.after (h : OwnW w base A a B b is st) {g j : Nat} (hA : ∀ k, blkW A = some k → k < g) (hB : ∀ k, blkW B = some k → k < g) (v : Value) : OwnW (w.setCell ⟨g, j, none⟩ v) base A a B b is st := by
  obtain ⟨m, h1, h2, h3⟩ := h.sx
  exact ⟨h.i.otherW (fun e => Nat.lt_irrefl _ (hA g e)) v, m, h1, h2.otherW (fun e => Nat.lt_irrefl _ (hB g e)) v, h3⟩
theorem OwnW.nil_ (w : World) (base : Nat) : OwnW w base none 0 none 0 [] [] := ⟨OwnI.nil_ _ _ _, base, Nat.le_refl _, OwnI.nil_ _ _ _, fun k h => by simp [blkW, Value.ownBlock] at h⟩
theorem OwnW.setI {g : Nat} (h : OwnW w base (some ⟨g, 0, none⟩) a B b is st) (j : Nat) {x : Int} (hx : Fit x) : OwnW (w.setCell ⟨g, j, none⟩ (.int .i64 x)) base (some ⟨g, 0, none⟩) a B b (is.set j x) st := by
  have hap := h.ap
  obtain ⟨m, h1, h2, h3⟩ := h.sx
  exact ⟨h.i.set_ j hx, m, h1, h2.otherW (hap g rfl) _, h3⟩
/-- The second row alone was written into. -/
theorem OwnW.putS {b' : Nat} {su : List Int} (h : OwnW w base A a B b is st) (hg : w.grownBy w' (blkW B)) (hs : ∀ m, base ≤ m → OwnI 3 w m B b st → OwnI 3 w' m B b' su) : OwnW w' base A a B b' is su := by
  have hap := h.ap
  obtain ⟨m, h1, h2, h3⟩ := h.sx
  refine ⟨h.i.grown hg ?_, m, h1, hs m h1 h2, h3⟩
  rw [blk_anyW]
  cases hA : blkW A with
  | none => exact .inl rfl
  | some k => exact .inr fun e => hap k hA e.symm
/-- The second row is another one. -/
theorem OwnW.newS {B' : Option Addr} {b' m : Nat} {su : List Int} (hi : OwnI 3 w base A a is) (hs : OwnI 3 w m B' b' su) (hb : base ≤ m) (hm : ∀ k, blkW A = some k → k < m) : OwnW w base A a B' b' is su := ⟨hi, m, hb, hs, hm⟩
end

/-- Workers are handed back: alone, and with an error; with an answer ahead; with a tally between. -/
def CopyW (is st : List Int) (w : World) (e : Ending) (w' : World) : Prop :=
  ∃ A a B b, e = .returned (.agg #[.slice A is.length a, .slice B st.length b]) ∧ OwnW w' w.heap.size A a B b is st ∧ Below w.heap.size w w'
def ErrW (r : List Int × List Int × Int) (w : World) (e : Ending) (w' : World) : Prop :=
  ∃ A a B b, e = .returned (.tuple #[.agg #[.slice A r.1.length a, .slice B r.2.1.length b], .int .i64 r.2.2]) ∧ OwnW w' w.heap.size A a B b r.1 r.2.1 ∧ Below w.heap.size w w'
def YesW (r : Bool × List Int × List Int × Int) (w : World) (e : Ending) (w' : World) : Prop :=
  ∃ A a B b, e = .returned (.tuple #[.bool r.1, .agg #[.slice A r.2.1.length a, .slice B r.2.2.1.length b], .int .i64 r.2.2.2]) ∧ OwnW w' w.heap.size A a B b r.2.1 r.2.2.1 ∧ Below w.heap.size w w'
def WhoW (r : Int × List Int × List Int × Int) (w : World) (e : Ending) (w' : World) : Prop :=
  ∃ A a B b, e = .returned (.tuple #[.int .i64 r.1, .agg #[.slice A r.2.1.length a, .slice B r.2.2.1.length b], .int .i64 r.2.2.2]) ∧ OwnW w' w.heap.size A a B b r.2.1 r.2.2.1 ∧ Below w.heap.size w w'
/-- A list's tally. -/
def tallyV (is : List Int) : Value := .agg #[.int .i64 (manyWo is 0 : Int), .int .i64 (manyWo is 1 : Int), .int .i64 (manyWo is 2 : Int), .int .i64 (manyWo is 3 : Int)]
def ChgW (r : List Int × List Int × Int) (w : World) (e : Ending) (w' : World) : Prop :=
  ∃ A a B b, e = .returned (.tuple #[.agg #[.slice A r.1.length a, .slice B r.2.1.length b], .agg #[.int .i64 (manyWo r.1 0 : Int), .int .i64 (manyWo r.1 1 : Int), .int .i64 (manyWo r.1 2 : Int), .int .i64 (manyWo r.1 3 : Int)], .int .i64 r.2.2]) ∧
    OwnW w' w.heap.size A a B b r.1 r.2.1 ∧ Below w.heap.size w w'
theorem errW_none {E : Int} {w w' : World} (hb : Below w.heap.size w w') : ErrW ([], [], E) w (.returned (.tuple #[.agg #[.slice none 0 0, .slice none 0 0], .int .i64 E])) w' := ⟨none, 0, none, 0, rfl, OwnW.nil_ _ _, hb⟩
theorem yesW_none {E : Int} {w w' : World} (hb : Below w.heap.size w w') : YesW (false, [], [], E) w (.returned (.tuple #[.bool false, .agg #[.slice none 0 0, .slice none 0 0], .int .i64 E])) w' := ⟨none, 0, none, 0, rfl, OwnW.nil_ _ _, hb⟩
theorem whoW_none {E : Int} {w w' : World} (hb : Below w.heap.size w w') : WhoW (0, [], [], E) w (.returned (.tuple #[.int .i64 0, .agg #[.slice none 0 0, .slice none 0 0], .int .i64 E])) w' := ⟨none, 0, none, 0, rfl, OwnW.nil_ _ _, hb⟩
theorem chgW_none {E : Int} {w w' : World} (hb : Below w.heap.size w w') : ChgW ([], [], E) w (.returned (.tuple #[.agg #[.slice none 0 0, .slice none 0 0], .agg #[.int .i64 0, .int .i64 0, .int .i64 0, .int .i64 0], .int .i64 E])) w' := ⟨none, 0, none, 0, rfl, OwnW.nil_ _ _, hb⟩

section
variable {w W : World} {g : Nat} {t : TypeId} {c0 c1 c2 c3 : Value}
theorem Bk.c2w (h : Bk w g t #[c0, c1]) : w.cell? ⟨g, 0, none⟩ = some c0 ∧ w.cell? ⟨g, 1, none⟩ = some c1 := ⟨h.cell 0, h.cell 1⟩
theorem Bk.f2w {cs : Array Value} (h : Bk w g t cs) : w.frozen? ⟨g, 0, none⟩ = false ∧ w.frozen? ⟨g, 1, none⟩ = false := ⟨h.frozen 0, h.frozen 1⟩
theorem Bk.c4w (h : Bk w g t #[c0, c1, c2, c3]) : w.cell? ⟨g, 0, none⟩ = some c0 ∧ w.cell? ⟨g, 1, none⟩ = some c1 ∧ w.cell? ⟨g, 2, none⟩ = some c2 ∧ w.cell? ⟨g, 3, none⟩ = some c3 := ⟨h.cell 0, h.cell 1, h.cell 2, h.cell 3⟩
theorem Bk.f4w {cs : Array Value} (h : Bk w g t cs) : w.frozen? ⟨g, 0, none⟩ = false ∧ w.frozen? ⟨g, 1, none⟩ = false ∧ w.frozen? ⟨g, 2, none⟩ = false ∧ w.frozen? ⟨g, 3, none⟩ = false := ⟨h.frozen 0, h.frozen 1, h.frozen 2, h.frozen 3⟩
def set2w (W : World) (g : Nat) (v0 v1 : Value) : World := (W.setCell ⟨g, 0, none⟩ v0).setCell ⟨g, 1, none⟩ v1
def set4w (W : World) (g : Nat) (v0 v1 v2 v3 : Value) : World := (((W.setCell ⟨g, 0, none⟩ v0).setCell ⟨g, 1, none⟩ v1).setCell ⟨g, 2, none⟩ v2).setCell ⟨g, 3, none⟩ v3
theorem bk_set2w (h : Bk W g t #[c0, c1]) (v0 v1 : Value) : Bk (set2w W g v0 v1) g t #[v0, v1] := by
  have a0 : Bk (_) g t #[v0, c1] := h.set_ 0 v0
  exact a0.set_ 1 v1
theorem bk_set4w (h : Bk W g t #[c0, c1, c2, c3]) (v0 v1 v2 v3 : Value) : Bk (set4w W g v0 v1 v2 v3) g t #[v0, v1, v2, v3] := by
  have a0 : Bk (_) g t #[v0, c1, c2, c3] := h.set_ 0 v0
  have a1 : Bk (_) g t #[v0, v1, c2, c3] := a0.set_ 1 v1
  have a2 : Bk (_) g t #[v0, v1, v2, c3] := a1.set_ 2 v2
  exact a2.set_ 3 v3
theorem below_set2w {B : Nat} (h : Below B w W) (hg : B ≤ g) (v0 v1 : Value) : Below B w (set2w W g v0 v1) := (h.setCell (p := ⟨g, 0, none⟩) hg v0).setCell (p := ⟨g, 1, none⟩) hg v1
theorem below_set4w {B : Nat} (h : Below B w W) (hg : B ≤ g) (v0 v1 v2 v3 : Value) : Below B w (set4w W g v0 v1 v2 v3) :=
  (((h.setCell (p := ⟨g, 0, none⟩) hg v0).setCell (p := ⟨g, 1, none⟩) hg v1).setCell (p := ⟨g, 2, none⟩) hg v2).setCell (p := ⟨g, 3, none⟩) hg v3
theorem far_set2w {k : Nat} {cs : Array Value} {u : TypeId} (h : Bk W k u cs) (hne : k ≠ g) (v0 v1 : Value) : Bk (set2w W g v0 v1) k u cs := (h.far (p := ⟨g, 0, none⟩) hne v0).far (p := ⟨g, 1, none⟩) hne v1
theorem far_set4w {k : Nat} {cs : Array Value} {u : TypeId} (h : Bk W k u cs) (hne : k ≠ g) (v0 v1 v2 v3 : Value) : Bk (set4w W g v0 v1 v2 v3) k u cs :=
  (((h.far (p := ⟨g, 0, none⟩) hne v0).far (p := ⟨g, 1, none⟩) hne v1).far (p := ⟨g, 2, none⟩) hne v2).far (p := ⟨g, 3, none⟩) hne v3
theorem ownW_set2 {base : Nat} {A B : Option Addr} {a b : Nat} {is st : List Int} (h : OwnW W base A a B b is st) (hg : g < base) (v0 v1 : Value) : OwnW (set2w W g v0 v1) base A a B b is st := (h.far (p := ⟨g, 0, none⟩) hg v0).far (p := ⟨g, 1, none⟩) hg v1
theorem ownW_set4 {base : Nat} {A B : Option Addr} {a b : Nat} {is st : List Int} (h : OwnW W base A a B b is st) (hg : g < base) (v0 v1 v2 v3 : Value) : OwnW (set4w W g v0 v1 v2 v3) base A a B b is st :=
  (((h.far (p := ⟨g, 0, none⟩) hg v0).far (p := ⟨g, 1, none⟩) hg v1).far (p := ⟨g, 2, none⟩) hg v2).far (p := ⟨g, 3, none⟩) hg v3
end
theorem lies3w (w : World) (x y z : Array Value) (t u v : TypeId) :
    Bk (((w.alloc (.cells x t)).alloc (.cells y u)).alloc (.cells z v)) w.heap.size t x ∧ Bk (((w.alloc (.cells x t)).alloc (.cells y u)).alloc (.cells z v)) (w.heap.size + 1) u y ∧
    Bk (((w.alloc (.cells x t)).alloc (.cells y u)).alloc (.cells z v)) (w.heap.size + 1 + 1) v z ∧ Below w.heap.size w (((w.alloc (.cells x t)).alloc (.cells y u)).alloc (.cells z v)) := by
  obtain ⟨h1, h2, h3⟩ := lies2 w x y t u
  refine ⟨h1.alloc _, h2.alloc _, ?_, h3.alloc h3.size _⟩
  have := Bk.new ((w.alloc (.cells x t)).alloc (.cells y u)) v z
  simpa using this
theorem lies4w (w : World) (x y z p : Array Value) (t u v q : TypeId) :
    Bk ((((w.alloc (.cells x t)).alloc (.cells y u)).alloc (.cells z v)).alloc (.cells p q)) w.heap.size t x ∧ Bk ((((w.alloc (.cells x t)).alloc (.cells y u)).alloc (.cells z v)).alloc (.cells p q)) (w.heap.size + 1) u y ∧
    Bk ((((w.alloc (.cells x t)).alloc (.cells y u)).alloc (.cells z v)).alloc (.cells p q)) (w.heap.size + 1 + 1) v z ∧ Bk ((((w.alloc (.cells x t)).alloc (.cells y u)).alloc (.cells z v)).alloc (.cells p q)) (w.heap.size + 1 + 1 + 1) q p ∧
    Below w.heap.size w ((((w.alloc (.cells x t)).alloc (.cells y u)).alloc (.cells z v)).alloc (.cells p q)) := by
  obtain ⟨h1, h2, h3, h4⟩ := lies3w w x y z t u v
  refine ⟨h1.alloc _, h2.alloc _, h3.alloc _, ?_, h4.alloc h4.size _⟩
  have := Bk.new (((w.alloc (.cells x t)).alloc (.cells y u)).alloc (.cells z v)) q p
  simpa using this

end Go.Proofs.Ytmndkofdoclihaa

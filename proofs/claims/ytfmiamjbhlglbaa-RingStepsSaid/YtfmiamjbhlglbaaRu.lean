/-
  For the document's accesses (layer 7): what they answer; the boxes that they make; small contracts in the form in which the walk asks for them.
-/
import Derived.Test.YtfmiamjbhlglbaaRq
import Derived.Test.YtfmiamjbhlglbaaSc
namespace Go.Proofs.Ytfmiamjbhlglbaa
open Go.RowKit

/-- What an access answers: cells, a hand, and whether it may be. -/
def RetMO (B : Nat) (ms : List Int) (h : Hd) (ok : Bool) (w : World) (e : Ending) (w' : World) : Prop :=
  ∃ A c, e = .returned (.tuple #[.slice A ms.length c, hv h, .bool ok]) ∧ OwnI 2 w' B A c ms ∧ Below w.heap.size w w'
def RetAcc (B : Nat) (o : Option (List Int × Hd)) (w : World) (e : Ending) (w' : World) : Prop :=
  ∃ ms h ok, RetMO B ms h ok w e w' ∧ o = if ok then some (ms, h) else none
theorem RetMO.acc {B : Nat} {ms : List Int} {h : Hd} {ok : Bool} {w : World} {e : Ending} {w' : World} {o : Option (List Int × Hd)} (r : RetMO B ms h ok w e w') (ho : o = if ok then some (ms, h) else none) : RetAcc B o w e w' := ⟨ms, h, ok, r, ho⟩
/-- The three blocks that an access of the document's makes first: the deque's box, the hand's, and what is handed back. -/
def three (w : World) (base cap : Nat) (k p v t b : Int) (wn : Bool) (s : Int) : World :=
  ((w.alloc (.cells #[.int .i64 base, .int .i64 cap] 25)).alloc (.cells #[.int .i64 k, .int .i64 p, .int .i64 v, .int .i64 t, .int .i64 b, .bool wn, .int .i64 s] 27)).alloc (.cells #[.int .i64 0, .int .i64 0, .int .i64 0, .int .i64 0, .int .i64 0, .bool false, .int .i64 0] 27)
/-- The deque's box and the hand's. -/
structure SBox (s base cap : Nat) (k p v t b : Int) (wn : Bool) (st : Int) (U : World) : Prop where
  q : Bk U s 25 #[.int .i64 base, .int .i64 cap]
  h : Bk U (s + 1) 27 #[.int .i64 k, .int .i64 p, .int .i64 v, .int .i64 t, .int .i64 b, .bool wn, .int .i64 st]
structure RBox (s : Nat) (U : World) : Prop where
  r : Bk U (s + 1 + 1) 27 #[.int .i64 0, .int .i64 0, .int .i64 0, .int .i64 0, .int .i64 0, .bool false, .int .i64 0]
theorem three_is (w : World) (base cap : Nat) (k p v t b : Int) (wn : Bool) (s : Int) :
    SBox w.heap.size base cap k p v t b wn s (three w base cap k p v t b wn s) ∧ RBox w.heap.size (three w base cap k p v t b wn s) ∧ Below w.heap.size w (three w base cap k p v t b wn s) := by
  have h2 := Bk.new (w.alloc (.cells #[.int .i64 base, .int .i64 cap] 25)) 27 #[.int .i64 k, .int .i64 p, .int .i64 v, .int .i64 t, .int .i64 b, .bool wn, .int .i64 s]
  have h3 := Bk.new ((w.alloc (.cells #[.int .i64 base, .int .i64 cap] 25)).alloc (.cells #[.int .i64 k, .int .i64 p, .int .i64 v, .int .i64 t, .int .i64 b, .bool wn, .int .i64 s] 27)) 27 #[.int .i64 0, .int .i64 0, .int .i64 0, .int .i64 0, .int .i64 0, .bool false, .int .i64 0]
  rw [size_alloc] at h2
  rw [size_alloc, size_alloc] at h3
  exact ⟨⟨((Bk.new w _ _).alloc _).alloc _, h2.alloc _⟩, ⟨h3⟩, (two_boxes w _ _ _ _).alloc (by simp; omega) _⟩
theorem SBox.below {s base cap : Nat} {k p v t b : Int} {wn : Bool} {st : Int} {U U' : World} (h : SBox s base cap k p v t b wn st U) (hb : Below U.heap.size U U') : SBox s base cap k p v t b wn st U' := ⟨h.q.below hb h.q.lt, h.h.below hb h.h.lt⟩
theorem SBox.drew {s base cap : Nat} {k p v t b : Int} {wn : Bool} {st : Int} {U : World} (h : SBox s base cap k p v t b wn st U) : SBox s base cap k p v t b wn st U.drew := ⟨h.q.drew, h.h.drew⟩
theorem SBox.far7 {s base cap : Nat} {k p v t b : Int} {wn : Bool} {st : Int} {U : World} (h : SBox s base cap k p v t b wn st U) (v0 v1 v2 v3 v4 v5 v6 : Value) : SBox s base cap k p v t b wn st (set7 U (s + 1 + 1) v0 v1 v2 v3 v4 v5 v6) := ⟨Bk.far7 h.q (by omega) _ _ _ _ _ _ _, Bk.far7 h.h (by omega) _ _ _ _ _ _ _⟩
theorem RBox.below {s : Nat} {U U' : World} (h : RBox s U) (hb : Below U.heap.size U U') : RBox s U' := ⟨h.r.below hb h.r.lt⟩
theorem RBox.drew {s : Nat} {U : World} (h : RBox s U) : RBox s U.drew := ⟨h.r.drew⟩
theorem own_far7 {E : TypeId} {W : World} {B g gA : Nat} {c : Nat} {zs : List Int} (h : OwnI E W B (some ⟨gA, 0, none⟩) c zs) (hne : gA ≠ g) (v0 v1 v2 v3 v4 v5 v6 : Value) : OwnI E (set7 W g v0 v1 v2 v3 v4 v5 v6) B (some ⟨gA, 0, none⟩) c zs := by
  have hne : ∀ a : Addr, some (⟨gA, 0, none⟩ : Addr) = some a → a.block ≠ g := by
    intro a e
    injection e with e
    subst e
    exact hne
  exact ((((((h.aside hne 0 v0).aside hne 1 v1).aside hne 2 v2).aside hne 3 v3).aside hne 4 v4).aside hne 5 v5).aside hne 6 v6
theorem at7 (k p v t b : Int) (wn : Bool) (s pc : Int) (w : World) : Calls Try.prog 35 #[.agg #[.int .i64 k, .int .i64 p, .int .i64 v, .int .i64 t, .int .i64 b, .bool wn, .int .i64 s], .int .i64 pc] w (RetB (.agg #[.int .i64 k, .int .i64 pc, .int .i64 v, .int .i64 t, .int .i64 b, .bool wn, .int .i64 s]) w) := at_any ⟨k, p, v, t, b, wn, s⟩ pc w
theorem ended7 (k p v t b : Int) (wn : Bool) (s st : Int) (w : World) : Calls Try.prog 36 #[.agg #[.int .i64 k, .int .i64 p, .int .i64 v, .int .i64 t, .int .i64 b, .bool wn, .int .i64 s], .int .i64 st] w (RetB (.agg #[.int .i64 k, .int .i64 p, .int .i64 v, .int .i64 t, .int .i64 b, .bool wn, .int .i64 st]) w) := ended_any ⟨k, p, v, t, b, wn, s⟩ st w
theorem with_at (A : Option Addr) (n c : Nat) (zs : List Int) (w : World) (hx : Ints w A n zs) (j : Nat) (ji : Int) (hji : ji = (j : Int)) (hj : j < n) (x : Int) (fx : Fit x) :
    Calls Try.prog 37 #[.slice A n c, .int .i64 ji, .int .i64 x] w (NewI 2 (zs.set j x) w) := by
  subst hji
  exact with_any A n c zs w hx j hj x fx
/-- The boxes, the cells, and that nothing else has changed. -/
structure AllB (w : World) (B base cap gA c : Nat) (ms : List Int) (k p v t b : Int) (wn : Bool) (st : Int) (U : World) : Prop where
  s : SBox w.heap.size base cap k p v t b wn st U
  r : RBox w.heap.size U
  bl : Below w.heap.size w U
  o : OwnI 2 U B (some ⟨gA, 0, none⟩) c ms
section
variable {w : World} {B base cap gA c : Nat} {ms : List Int} {k p v t b : Int} {wn : Bool} {st : Int} {U U' : World}
theorem AllB.below (h : AllB w B base cap gA c ms k p v t b wn st U) (hb : Below U.heap.size U U') : AllB w B base cap gA c ms k p v t b wn st U' := ⟨h.s.below hb, h.r.below hb, below3 h.bl hb, h.o.below hb⟩
theorem AllB.drew (h : AllB w B base cap gA c ms k p v t b wn st U) : AllB w B base cap gA c ms k p v t b wn st U.drew := h.below (Below.refl _ _).drew
theorem AllB.start (k p v t b : Int) (wn : Bool) (st : Int) (hx : OwnI 2 w B (some ⟨gA, 0, none⟩) c ms) : AllB w B base cap gA c ms k p v t b wn st (three w base cap k p v t b wn st) := by
  obtain ⟨h1, h2, h3⟩ := three_is w base cap k p v t b wn st
  exact ⟨h1, h2, h3, hx.below h3⟩
theorem ne_blk {gA g : Nat} (hne : gA ≠ g) : ∀ a : Addr, some (⟨gA, 0, none⟩ : Addr) = some a → a.block ≠ g := by
  intro a e
  injection e with e
  subst e
  exact hne
/-- What pop's claim reads, whatever Won is. -/
def SPop (s base cap gA : Nat) (k p v t b st y : Int) (U : World) : Prop := ∃ wn, SBox s base cap k p v t b wn st U ∧ U.cell? ⟨gA, base, none⟩ = some (.int .i64 y)
theorem AllB.setV (h : AllB w B base cap gA c ms k p v t b wn st U) (hg : gA < w.heap.size) (y : Int) : AllB w B base cap gA c ms k p y t b wn st (U.setCell ⟨w.heap.size + 1, 2, none⟩ (.int .i64 y)) :=
  ⟨⟨h.s.q.far (p := ⟨w.heap.size + 1, 2, none⟩) (by show w.heap.size ≠ w.heap.size + 1; omega) _, h.s.h.set_ 2 (.int .i64 y)⟩, ⟨h.r.r.far (p := ⟨w.heap.size + 1, 2, none⟩) (by show w.heap.size + 1 + 1 ≠ w.heap.size + 1; omega) _⟩,
    h.bl.setCell (p := ⟨w.heap.size + 1, 2, none⟩) (by show w.heap.size ≤ w.heap.size + 1; omega) _, h.o.aside (ne_blk (by omega)) 2 _⟩
theorem AllB.setW (h : AllB w B base cap gA c ms k p v t b wn st U) (hg : gA < w.heap.size) (y : Bool) : AllB w B base cap gA c ms k p v t b y st (U.setCell ⟨w.heap.size + 1, 5, none⟩ (.bool y)) :=
  ⟨⟨h.s.q.far (p := ⟨w.heap.size + 1, 5, none⟩) (by show w.heap.size ≠ w.heap.size + 1; omega) _, h.s.h.set_ 5 (.bool y)⟩, ⟨h.r.r.far (p := ⟨w.heap.size + 1, 5, none⟩) (by show w.heap.size + 1 + 1 ≠ w.heap.size + 1; omega) _⟩,
    h.bl.setCell (p := ⟨w.heap.size + 1, 5, none⟩) (by show w.heap.size ≤ w.heap.size + 1; omega) _, h.o.aside (ne_blk (by omega)) 5 _⟩
end
theorem slI_lt (base cap : Nat) (n : Int) (h1 : 1 ≤ cap) : slI base cap n < base + 2 + cap := by
  unfold slI
  have h2 := Int.tmod_lt_of_pos n (show (0 : Int) < cap by omega)
  omega

end Go.Proofs.Ytfmiamjbhlglbaa

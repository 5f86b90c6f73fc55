/-
  Layer 10, the program: a map[int64]struct{} as a set of numbers; a gate in memory: a number, a row of the call's own, a set; rows cut short.
-/
import Derived.Test.YtokmogfnliccjaaSc
import Derived.Test.YtokmogfnliccjaaQue
import Derived.Maps.OwnSet
import Derived.Maps.Views
namespace Go.Proofs.Ytokmogfnliccjaa
open Go.RowKit Go.Maps

theorem Try.lawI64 : Keyed Try.prog 2 := int_keyed Try.underlying2
theorem keyI64 {x : Int} (h : Fit x) : keyOf Try.prog 2 (.int .i64 x) = some (.int .i64 x) := keyOf_int_mk Try.underlying2 (wf_of_fit h)
theorem Try.zeroUnit (w : World) : (zeroValue 63).run Try.prog w = .ok (.agg #[]) w := by kernel_rfl

/-- In block b lies a set of just those numbers (n of them at the most). -/
def FSet (w : World) (b n : Nat) (f : Int → Bool) : Prop :=
  ∃ D : DataW Unit, w.ownsMap Try.prog 2 unitElem b n D ∧ ∀ x, Maps.has D (.int .i64 x) = f x
section
variable {w w' : World} {b n : Nat} {f : Int → Bool}
theorem FSet.made (w : World) : FSet (w.alloc (.map #[] 0)) w.heap.size 0 fun _ => false :=
  ⟨.map [], World.ownsMap_made w _ _ _, fun _ => rfl⟩
theorem FSet.grown (h : FSet w b n f) {row : Option Nat} (hg : w.grownBy w' row) (hne : some b ≠ row) : FSet w' b n f := by
  obtain ⟨D, hD, hf⟩ := h
  exact ⟨D, hD.kept hg hne, hf⟩
theorem FSet.below (h : FSet w b n f) (hb : Below w.heap.size w w') : FSet w' b n f :=
  h.grown (row := none) ⟨hb.os, hb.tape, hb.output, hb.size, fun k hk _ => hb.block k hk⟩ (by simp)
theorem FSet.mono (h : FSet w b n f) {n' : Nat} (hn : n ≤ n') : FSet w b n' f := by
  obtain ⟨D, hD, hf⟩ := h
  exact ⟨D, hD.mono hn, hf⟩
theorem FSet.lt (h : FSet w b n f) : b < w.heap.size := by obtain ⟨D, hD, _⟩ := h; exact hD.lt
theorem FSet.same {g : Int → Bool} (h : FSet w b n f) (e : ∀ y, f y = g y) : FSet w b n g := by
  obtain ⟨D, hD, hf⟩ := h
  exact ⟨D, hD, fun x => (hf x).trans (e x)⟩
theorem FSet.get (h : FSet w b n f) {x : Int} (hx : Fit x) : (Instr.lookup 53 (.map (some b)) (.int .i64 x) true).run Try.prog w = .ok (.tuple #[.agg #[], .bool (f x)]) w := by
  obtain ⟨D, hD, hf⟩ := h
  obtain ⟨v, ps, hrun, hv⟩ := hD.look_ok Try.lawI64 Try.underlying53 (Try.zeroUnit w) unitElem_mk (keyI64 hx)
  obtain ⟨rfl, _⟩ := unitElem_inv hv
  rw [hrun, hf x]
theorem FSet.put (h : FSet w b n f) {x : Int} (hx : Fit x) (hn : n < 1000) : ∃ w', (Instr.mapUpdate 53 (.map (some b)) (.int .i64 x) (.agg #[])).run Try.prog w = .ok () w' ∧ FSet w' b (n + 1) (fun y => if y = x then true else f y) ∧ w.grownBy w' (some b) := by
  obtain ⟨D, hD, hf⟩ := h
  obtain ⟨w', hrun, h1, h2⟩ := hD.update Try.lawI64 Try.underlying53 (by unfold maxLen; omega) (keyI64 hx) unitElem_mk
  refine ⟨w', hrun, ⟨_, h1, fun y => ?_⟩, h2⟩
  by_cases e : y = x
  · subst e
    rw [has_put_same hD.isMap (by trivial)]; simp
  · rw [has_put_other (by intro e'; injection e' with _ e'; exact e e'), hf y]; simp [e]
theorem FSet.del (h : FSet w b n f) {x : Int} (hx : Fit x) (ty : TypeId) : ∃ w', (Builtin.delete_ #[53, 2] ty #[.map (some b), .int .i64 x]).run Try.prog w = .ok (.tuple #[]) w' ∧ FSet w' b n (fun y => if y = x then false else f y) ∧ w.grownBy w' (some b) := by
  obtain ⟨D, hD, hf⟩ := h
  obtain ⟨w', hrun, h1, h2⟩ := hD.drop Try.lawI64 Try.underlying53 (keyI64 hx) ty
  refine ⟨w', hrun, ⟨_, h1, fun y => ?_⟩, h2.grown⟩
  by_cases e : y = x
  · subst e
    rw [has_del_same]; simp
  · rw [has_del_other (by intro e'; injection e' with _ e'; exact e e'), hf y]; simp [e]
theorem FSet.map_ (h : FSet w b n f) : ∃ es ck, w.heap[b]? = some (.map es ck) := by
  obtain ⟨D, ⟨es, ck, hb, _⟩, _⟩ := h
  exact ⟨es, ck, hb⟩
theorem FSet.nebk (h : FSet w b n f) {g : Nat} {t : TypeId} {cs : Array Value} (hk : Bk w g t cs) : g ≠ b := by
  rintro rfl
  obtain ⟨es, ck, e⟩ := h.map_
  rw [show w.heap[g]? = _ from hk] at e
  cases e
theorem FSet.neown {E : TypeId} {base : Nat} {A : Option Addr} {c k d : Nat} {zs : List Int} (h : FSet w b n f) (ho : OwnI E w base A c zs) : (Value.slice A k d).ownBlock ≠ some b := by
  intro e
  obtain ⟨cs, hk⟩ := ho.que.type e
  exact h.nebk hk rfl
end

/-- A row cut short. -/
theorem OwnI.short {E : TypeId} {w : World} {base : Nat} {A : Option Addr} {c : Nat} {zs : List Int} (h : OwnI E w base A c zs) {k : Nat} (hk : k ≤ zs.length) (hA : A ≠ none) : OwnI E w base A c (zs.take k) := by
  obtain ⟨h1, h2, h3, h4⟩ := h
  have hl : (zs.take k).length = k := by rw [List.length_take]; omega
  refine ⟨by rw [hl]; omega, fun z hz => h2 z (List.mem_of_mem_take hz), by simp, ?_⟩
  rcases h4 with ⟨e, _⟩ | ⟨g, cap, cur, e, hb, hh, hc, hm, hs, ht⟩
  · injection e with e _ _
    exact absurd e hA
  · injection e with e1 e2 e3
    subst e1 e3
    refine .inr ⟨g, c, cur, by rw [hl], hb, hh, by omega, hm, hs, ?_⟩
    rw [hl, List.map_take, ← ht, List.take_take, Nat.min_eq_left (by omega), Nat.mul_one]
theorem OwnI.setOut {E : TypeId} {base g c : Nat} {zs : List Int} : ∀ (vs : List Value) (o : Nat) (w : World), zs.length ≤ o → OwnI E w base (some ⟨g, 0, none⟩) c zs → OwnI E (w.setCells g o vs) base (some ⟨g, 0, none⟩) c zs
  | [], _, _, _, h => h
  | v :: vs, o, w, ho, h => by
    have h' : OwnI E (w.setCell ⟨g, o, none⟩ v) base (some ⟨g, 0, none⟩) c zs := by
      refine ⟨h.1, h.2.1, ?_⟩
      have := (h.2.2.stored o v).1
      rwa [List.set_eq_of_length_le (by simpa using ho)] at this
    exact OwnI.setOut vs (o + 1) _ (by omega) h'

theorem has_put (l : List Int) (x : Int) : ∀ y, (if y = x then true else hasB l y) = hasB (l ++ [x]) y := fun y => by
  unfold hasB
  by_cases e : y = x <;> simp [e]
theorem has_del (l : List Int) (x : Int) : ∀ y, (if y = x then false else hasB l y) = hasB (wo l x) y := fun y => by
  unfold hasB wo
  by_cases e : y = x <;> simp [e]

/-- A gate that the call has made itself: how many are free, who waits, and a set of those. -/
structure GS (w : World) (base g : Nat) (z : Int) (A : Option Addr) (n c b m : Nat) (l : List Int) : Prop where
  k : Bk w g 57 #[.int .i64 z, .slice A n c, .map (some b)]
  o : OwnI 2 w (g + 1) A c l
  n : l.length = n
  s : FSet w b m (hasB l)
  gb : g < b
  hb : base ≤ g
section
variable {w w' : World} {base g : Nat} {z : Int} {A : Option Addr} {n c b m : Nat} {l : List Int}
theorem GS.below (h : GS w base g z A n c b m l) (hb : Below w.heap.size w w') : GS w' base g z A n c b m l := ⟨h.k.below hb h.k.lt, h.o.below hb, h.n, h.s.below hb, h.gb, h.hb⟩
theorem GS.c0 (h : GS w base g z A n c b m l) : w.cell? ⟨g, 0, none⟩ = some (.int .i64 z) := (h.k.cell 0).trans rfl
theorem GS.c1 (h : GS w base g z A n c b m l) : w.cell? ⟨g, 1, none⟩ = some (.slice A n c) := (h.k.cell 1).trans rfl
theorem GS.c2 (h : GS w base g z A n c b m l) : w.cell? ⟨g, 2, none⟩ = some (.map (some b)) := (h.k.cell 2).trans rfl
theorem GS.lt (h : GS w base g z A n c b m l) : g < w.heap.size := h.k.lt
theorem GS.base_ (h : GS w base g z A n c b m l) {B : Nat} (hB : B ≤ base) : GS w B g z A n c b m l := ⟨h.k, h.o, h.n, h.s, h.gb, Nat.le_trans hB h.hb⟩
/-- Its number, set. -/
theorem GS.set0 (h : GS w base g z A n c b m l) (y : Int) : GS (w.setCell ⟨g, 0, none⟩ (.int .i64 y)) base g y A n c b m l := by
  have hg := grown_set (w := w) (g := g) (i := 0) (.int .i64 y)
  refine ⟨by simpa using h.k.set_ 0 (.int .i64 y), ?_, h.n, h.s.grown hg (by have := h.gb; intro e; injection e with e; omega), h.gb, h.hb⟩
  refine ⟨h.o.1, h.o.2.1, ownsRow_setCell_other h.o.2.2 ?_ _⟩
  intro e
  have := h.o.block g e
  omega
end
/-- A gate behind a call that leaves it alone, and one that changes it. -/
def Mut (v : Value) (base g m : Nat) (z : Int) (l : List Int) (w : World) (e : Ending) (w' : World) : Prop :=
  e = .returned v ∧ (∃ A n c b, GS w' base g z A n c b m l) ∧ Below base w w'

end Go.Proofs.Ytokmogfnliccjaa

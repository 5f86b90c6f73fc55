/-
  Small lemmas over no program that stage 3 needed, gathered for later stages (their copies in tpl03 stand as they are: never import both).
-/
import Derived.Test.YtpfnoohcilefhaaOct
import Derived.Test.YtpfnoohcilefhaaBlk
namespace Go.Proofs.Ytpfnoohcilefhaa
open Go.RowKit

theorem grown_set {w : World} {g i : Nat} (u : Value) : w.grownBy (w.setCell ⟨g, i, none⟩ u) (some g) :=
  ⟨rfl, rfl, rfl, by simp [World.setCell], fun k _ hne => Below.heap_setCell w _ u k (by intro e; exact hne (by rw [e]))⟩

theorem Bk.grown {w w' : World} {g : Nat} {t : TypeId} {cs : Array Value} {row : Option Nat} (h : Bk w g t cs) (hb : w.grownBy w' row) (hg : some g ≠ row) : Bk w' g t cs := (hb.block g h.lt hg).trans h

/-- A struct of dice, and the place of the result, as they lie at the beginning. -/
theorem lies2 (w : World) (x y : Array Value) (t u : TypeId) :
    Bk ((w.alloc (.cells x t)).alloc (.cells y u)) w.heap.size t x ∧ Bk ((w.alloc (.cells x t)).alloc (.cells y u)) (w.heap.size + 1) u y ∧ Below w.heap.size w ((w.alloc (.cells x t)).alloc (.cells y u)) := by
  refine ⟨(Bk.new w t x).alloc _, ?_, ((Below.refl w.heap.size w).alloc (Nat.le_refl _) _).alloc (by simp) _⟩
  have := Bk.new (w.alloc (.cells x t)) u y
  simpa using this

section
variable {w : World} {g : Nat} {t : TypeId} {u v : Value}
theorem Bk.one {w : World} {g : Nat} {t : TypeId} {u : Value} (h : Bk w g t #[u]) : w.cell? ⟨g, 0, none⟩ = some u := (h.cell 0).trans rfl
theorem Bk.c0 (h : Bk w g t #[u, v]) : w.cell? ⟨g, 0, none⟩ = some u := (h.cell 0).trans rfl
theorem Bk.c1 (h : Bk w g t #[u, v]) : w.cell? ⟨g, 1, none⟩ = some v := (h.cell 1).trans rfl
end

theorem nth_beyond {bs : List Int} {p : Nat} (h : bs.length ≤ p) : nth bs p = 0 := by
  simp [nth, List.getD, List.getElem?_eq_none h]

theorem below_drewN {B : Nat} {a w : World} (h : Below B a w) (n : Nat) : Below B a (w.drewN n) := ⟨h.os, h.tape, h.output, h.size, h.block⟩

theorem size_alloc (w : World) (o : Obj) : (w.alloc o).heap.size = w.heap.size + 1 := by simp

theorem octs2 {w : World} {g : Nat} {t : TypeId} {a b : Int} (h : Bk w g t #[.int .u8 a, .int .u8 b]) (ha : Oct a) (hb : Oct b) : Octs w (some ⟨g, 0, none⟩) 2 [a, b] := by
  refine ⟨rfl, by omega, by simp [ha, hb], fun _ => ⟨g, 0, rfl, h.lt, fun j hj => ?_⟩⟩
  rw [Nat.zero_add, h.cell]
  match j, hj with
  | 0, _ => rfl
  | 1, _ => rfl

theorem ints3 {w : World} {g : Nat} {t : TypeId} {a b c : Int} (h : Bk w g t #[.int .i64 a, .int .i64 b, .int .i64 c]) (ha : Fit a) (hb : Fit b) (hc : Fit c) : Ints w (some ⟨g, 0, none⟩) 3 [a, b, c] := by
  refine ⟨rfl, by omega, by simp [ha, hb, hc], fun _ => ⟨g, 0, rfl, h.lt, fun j hj => ?_⟩⟩
  rw [Nat.zero_add, h.cell]
  match j, hj with
  | 0, _ => rfl
  | 1, _ => rfl
  | 2, _ => rfl

theorem ints1 (w : World) (E : TypeId) {x : Int} (hx : Fit x) : Ints (w.alloc (.cells #[.int .i64 x] E)) (some ⟨w.heap.size, 0, none⟩) 1 [x] := by
  refine ⟨rfl, by omega, fun z hz => by rw [List.mem_singleton.1 hz]; exact hx, fun _ => ⟨w.heap.size, 0, rfl, by simp, fun j hj => ?_⟩⟩
  obtain rfl : j = 0 := by omega
  rw [World.cell?_alloc_at _ _ _ _ rfl]
  rfl

theorem fit0 : Fit 0 := by unfold Fit; omega

theorem OwnI.zeros {E : TypeId} {w : World} {base n : Nat} {g c : Nat} (hn : n * 8 ≤ 140737488351232) (h : w.ownsRow base E 1 (.slice (some ⟨g, 0, none⟩) n c) n (madeCells (Value.int .i64 0).cells (n * 1)).toList) :
    OwnI E w base (some ⟨g, 0, none⟩) c (List.replicate n 0) := by
  refine ⟨by simpa using hn, fun z hz => ?_, ?_⟩
  · rw [List.eq_of_mem_replicate hz]; exact fit0
  · have e : (madeCells (Value.int .i64 0).cells (n * 1)).toList = List.replicate n (Value.int .i64 0) := by
      rw [Nat.mul_one]; exact toList_madeCells_one _ _
    rw [e] at h
    simpa [List.map_replicate] using h

/-- Octets stay where a cell is written that is no octet. -/
theorem Octs.apart {w : World} {A : Option Addr} {n : Nat} {bs : List Int} (h : Octs w A n bs) {p : Addr} {v : Value} (hc : w.cell? p = some v) (hv : ∀ z, v ≠ .int .u8 z) (u : Value) : Octs (w.setCell p u) A n bs :=
  ⟨h.1, h.2.1, h.2.2.1, fun hn => by
    obtain ⟨b, o, e, hb, hcell⟩ := h.2.2.2 hn
    refine ⟨b, o, e, by simpa [World.setCell] using hb, fun j hj => (World.cell?_setCell_other w _ _ _ ?_).trans (hcell j hj)⟩
    rintro rfl
    rw [hcell j hj] at hc
    injection hc with hc
    exact hv _ hc.symm⟩

theorem OwnI.apart {E : TypeId} {w : World} {base g : Nat} {c : Nat} {zs : List Int} (h : OwnI E w base (some ⟨g, 0, none⟩) c zs) {p : Addr} (hp : g ≠ p.block) (u : Value) : OwnI E (w.setCell p u) base (some ⟨g, 0, none⟩) c zs :=
  ⟨h.1, h.2.1, ownsRow_setCell_other h.2.2 (by simpa [Value.ownBlock] using hp) u⟩

theorem OwnI.lt {E : TypeId} {w : World} {base g : Nat} {c : Nat} {zs : List Int} (h : OwnI E w base (some ⟨g, 0, none⟩) c zs) : g < w.heap.size := by
  rcases h.2.2.2 with ⟨h1, -⟩ | ⟨g', cap, cur, e, -, hh, -⟩
  · simp at h1
  · injection e with e1 _ _
    simp at e1
    subst e1
    exact (Array.getElem?_eq_some_iff.1 hh).1

theorem rows_ne {E E' : TypeId} {w : World} {b b' : Nat} {A A' : Option Addr} {c c' : Nat} {xs ys : List Int} (h : OwnO E w b A c xs) (h' : OwnI E' w b' A' c' ys) (hne : E ≠ E') {n n' d d' : Nat} : (Value.slice A n d).ownBlock = none ∨ (Value.slice A n d).ownBlock ≠ (Value.slice A' n' d').ownBlock := by
  rcases h.2.2.2 with ⟨e, -⟩ | ⟨g, cap, cur, e, -, hh, -⟩
  · injection e with e _ _
    subst e
    exact .inl (by simp [Value.ownBlock])
  · injection e with e _ _
    subst e
    refine .inr ?_
    rcases h'.2.2.2 with ⟨e', -⟩ | ⟨g', cap', cur', e', -, hh', -⟩
    · injection e' with e' _ _
      subst e'
      simp [Value.ownBlock]
    · injection e' with e' _ _
      subst e'
      simp [Value.ownBlock]
      rintro rfl
      rw [hh] at hh'
      simp at hh'
      exact hne hh'.2

theorem ext_nth {xs ys : List Int} (hl : xs.length = ys.length) (h : ∀ i, i < xs.length → nth xs i = nth ys i) : xs = ys := by
  refine List.ext_getElem hl fun i h1 h2 => ?_
  have := h i h1
  rwa [nth_get h1, nth_get h2] at this

theorem nth_set (xs : List Int) (i j : Nat) (x : Int) (h : i < xs.length) : nth (xs.set j x) i = if j = i then x else nth xs i := by
  rw [nth_get (by simpa using h), List.getElem_set, nth_get h]

theorem OwnO.octsN {E : TypeId} {w : World} {base : Nat} {A : Option Addr} {c n : Nat} {zs : List Int} (h : OwnO E w base A c zs) (hl : zs.length = n) : Octs w A n zs := hl ▸ h.octs

theorem run_store_func (P : Program) (w : World) (a : Addr) (m : Mode) (f : Fn) (x y : Array Value) : (store a (.func f x y) m).run P w = stored P w a (.func f x y) m := run_store P w a _ m rfl

end Go.Proofs.Ytpfnoohcilefhaa

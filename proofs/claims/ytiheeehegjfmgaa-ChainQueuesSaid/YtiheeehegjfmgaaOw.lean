/-
  The contract of 'owners': of each node the list that it is in, if the chains may be.
-/
import Derived.Test.YtiheeehegjfmgaaNo
import Derived.Test.YtiheeehegjfmgaaFi
import Derived.Test.YtiheeehegjfmgaaOm
import Derived.Test.YtiheeehegjfmgaaHr
namespace Go.Proofs.Ytiheeehegjfmgaa
open Go.RowKit Go.Shelf
attribute [local go_sem] Oper.semAt_some wide_depth

/-- What owners answers. -/
def OwnAns (next head tail : List Int) (w : World) (e : Ending) (w' : World) : Prop :=
  Below w.heap.size w w' ∧ ((∃ qs, Rep next head tail qs ∧ ∃ A c, e = .returned (.tuple #[.slice A next.length c, .bool true]) ∧ OwnI 3 w' w.heap.size A c (inL next.length qs)) ∨
    ((∀ qs, ¬ Rep next head tail qs) ∧ e = .returned (.tuple #[.slice none 0 0, .bool false])))

/-- What lies there in a loop of owners. -/
structure OwS (w wr : World) (cs : Array Value) (gi : Nat) (A : Option Addr) (n c : Nat) (ins : List Int) (ds : List Deferred) : Prop where
  box : Bk wr w.heap.size 24 cs
  r1 : Bk wr (w.heap.size + 1) 22 #[.slice none 0 0]
  r2 : Bk wr (w.heap.size + 2) 4 #[.bool false]
  below : Below w.heap.size w wr
  inn : Bk wr gi 22 #[.slice A n c]
  gilt : w.heap.size + 3 ≤ gi
  row : OwnI 3 wr (w.heap.size + 3) A c ins
  ilen : ins.length = n
  marks : Marks (w.heap.size + 3) wr ds

section
variable {w wr w' : World} {cs : Array Value} {gi : Nat} {A : Option Addr} {n c : Nat} {ins : List Int} {ds : List Deferred}
theorem OwnI.turn {E : TypeId} {B : Nat} {w w' : World} {base : Nat} {A : Option Addr} {c : Nat} {p : List Int} (h : OwnI E w base A c p) (ht : Turn B w w') : OwnI E w' base A c p := by
  refine ⟨h.1, h.2.1, h.2.2.1, ?_⟩
  rcases h.2.2.2 with h2 | ⟨g, cap, cur, e, hb, hh, r⟩
  · exact .inl h2
  · exact .inr ⟨g, cap, cur, e, hb, ht.same _ _ hh (.inl rfl), r⟩
theorem Bk.turn {B : Nat} {w w' : World} {g : Nat} {t : TypeId} {cs : Array Value} (h : Bk w g t cs) (ht : Turn B w w') : Bk w' g t cs := ht.same _ _ h (.inl rfl)
theorem Marks.turn {B C : Nat} {w w' : World} {ds : List Deferred} (h : Marks B w ds) (ht : Turn C w w') (hl : ∀ D, ({ target := .collected D, args := #[] } : Deferred) ∈ ds → D < C) : Marks B w' ds :=
  h.kept fun D hD hh => ht.same _ _ hh (.inr (hl D hD))
theorem Marks.below {B : Nat} {w w' : World} {ds : List Deferred} (h : Marks B w ds) (hb : Below w.heap.size w w') : Marks B w' ds :=
  h.kept fun D _ hh => (hb.block D (Array.getElem?_eq_some_iff.1 hh).1).trans hh
theorem Marks.set_ {B : Nat} {w : World} {ds : List Deferred} (h : Marks B w ds) {g : Nat} {t : TypeId} {cs : Array Value} (hk : Bk w g t cs) (i : Nat) (v : Value) : Marks B (w.setCell ⟨g, i, none⟩ v) ds :=
  h.kept fun D _ hh => by
    have hne : D ≠ g := by
      rintro rfl
      have hk' : w.heap[D]? = _ := hk
      rw [hk'] at hh
      cases hh
    exact (Below.heap_setCell w _ v D hne).trans hh
theorem OwS.turn {C : Nat} (h : OwS w wr cs gi A n c ins ds) (ht : Turn C wr w') (hC : w.heap.size ≤ C) (hl : ∀ D, ({ target := .collected D, args := #[] } : Deferred) ∈ ds → D < C) : OwS w w' cs gi A n c ins ds :=
  ⟨h.box.turn ht, h.r1.turn ht, h.r2.turn ht, ht.below h.below hC (Nat.le_refl _), h.inn.turn ht, h.gilt, h.row.turn ht, h.ilen, h.marks.turn ht hl⟩
theorem OwS.call (h : OwS w wr cs gi A n c ins ds) (hb : Below wr.heap.size wr w') : OwS w w' cs gi A n c ins ds :=
  ⟨h.box.below hb h.box.lt, h.r1.below hb h.r1.lt, h.r2.below hb h.r2.lt, below3 h.below hb, h.inn.below hb h.inn.lt, h.gilt, h.row.below hb, h.ilen, h.marks.below hb⟩
/-- A number in a box of its own is written. -/
theorem OwS.num (h : OwS w wr cs gi A n c ins ds) {g : Nat} {xs : Array Value} (hk : Bk wr g 3 xs) (hg : w.heap.size + 3 ≤ g) (hr : ∀ k, (Value.slice A n c).ownBlock = some k → k ≠ g) (v : Value) : OwS w (wr.setCell ⟨g, 0, none⟩ v) cs gi A n c ins ds := by
  have e1 : gi ≠ g := by
    rintro rfl
    have := bk_types h.inn hk
    revert this; decide
  refine ⟨h.box.far (by simp; omega) _, h.r1.far (by simp; omega) _, h.r2.far (by simp; omega) _, h.below.setCell (p := ⟨g, 0, none⟩) (by simp; omega) _, h.inn.far (by simpa using e1) _, h.gilt, ?_, h.ilen, h.marks.set_ hk 0 v⟩
  refine ⟨h.row.1, h.row.2.1, ownsRow_setCell_other h.row.2.2 (fun e => ?_) v⟩
  refine hr g ?_ rfl
  cases A with
  | none => simp [Value.ownBlock] at e
  | some ad => simpa [Value.ownBlock] using e
/-- A node's list is written. -/
theorem OwS.mark {ga : Nat} (h : OwS w wr cs gi (some ⟨ga, 0, none⟩) n c ins ds) (x : Nat) {i : Int} (hi : Fit i) : OwS w (wr.setCell ⟨ga, x, none⟩ (.int .i64 i)) cs gi (some ⟨ga, 0, none⟩) n c (ins.set x i) ds := by
  have hbk := h.row.que.type (n := n) (d := c) (k := ga) (by simp [Value.ownBlock])
  obtain ⟨xs, hk⟩ := hbk
  have hga := (h.row.que.block (n := n) (d := c) ga (by simp [Value.ownBlock])).1
  have e1 : gi ≠ ga := by
    rintro rfl
    have := bk_types h.inn hk
    revert this; decide
  exact ⟨h.box.far (by simp; omega) _, h.r1.far (by simp; omega) _, h.r2.far (by simp; omega) _, h.below.setCell (p := ⟨ga, x, none⟩) (by simp; omega) _, h.inn.far (by simpa using e1) _, h.gilt, h.row.set_ x hi, by rw [List.length_set]; exact h.ilen, h.marks.set_ hk x _⟩
end

theorem own_no {next head tail : List Int} {w w' : World} {e : Ending} (hb : Below w.heap.size w w') (h : ∀ qs, ¬ Rep next head tail qs) (he : e = .returned (.tuple #[.slice none 0 0, .bool false])) : OwnAns next head tail w e w' := ⟨hb, .inr ⟨h, he⟩⟩
/-- The frame in the loop over the lists. -/
def OwA (w : World) (gi : Nat) (B : Option Addr) (m b i : Nat) (ds : List Deferred) (a : Act) : Prop :=
  ∃ u0 u5 u6 u7 u8 u9 u10 u11 u12 u13 u14 u15 u16 u17 u18 u19 u20 u21 u22 u23 u24 u25 u26 u27 u28 u29 u30 u31 u32 u33 u34 u35 u36 u37 u38 u39 u40 u41 u45 u46 u47 u48 u49 u50 u51 u52 u53 u54 u55 u56 u57 u58 u59 u60 u61 u62 u63 u64 u65 u66 u67 u68 u69 u70 u71 u72 u73 u74 u75 u76 u77 u78 u79 u80 u81 u82 u83 u84 u85 u86 u87 u88 u89 u90 u91 u92 u93 u94 u95 u96 u97 u98 u99 : Value, a = { tmps := #[u0, (.pointer (some ⟨w.heap.size, 0, none⟩)), (.pointer (some ⟨w.heap.size + 1, 0, none⟩)), (.pointer (some ⟨w.heap.size + 1 + 1, 0, none⟩)), (.pointer (some ⟨gi, 0, none⟩)), u5, u6, u7, u8, u9, u10, u11, u12, u13, u14, u15, u16, u17, u18, u19, u20, u21, u22, u23, u24, u25, u26, u27, u28, u29, u30, u31, u32, u33, u34, u35, u36, u37, u38, u39, u40, u41, (.slice B m b), (.int .i64 m), (.int .i64 i), u45, u46, u47, u48, u49, u50, u51, u52, u53, u54, u55, u56, u57, u58, u59, u60, u61, u62, u63, u64, u65, u66, u67, u68, u69, u70, u71, u72, u73, u74, u75, u76, u77, u78, u79, u80, u81, u82, u83, u84, u85, u86, u87, u88, u89, u90, u91, u92, u93, u94, u95, u96, u97, u98, u99], defers := ds }

/-- Between two rounds of the loop over the lists. -/
def OwI (w : World) (cs : Array Value) (gi : Nat) (E : Option Addr) (n c i : Nat) (next head tail : List Int) (ds : List Deferred) (wr : World) : Prop :=
  ∃ ins out, OwS w wr cs gi E n c ins ds ∧ Hid (out.length = i ∧ OwM next head tail out [] (nth head i) ins)

/-- The frame in a round of the range over a list's nodes. -/
def OwX (w : World) (gi b5 : Nat) (x : Int) (a : Act) : Prop :=
  ∃ u0 u6 u10 u11 u12 u13 u14 u15 u16 u17 u18 u19 u20 u21 u22 u23 u24 u25 u26 u27 u28 u29 u30 u31 u32 u33 u34 u35 u36 u37 u38 u39 u40 u41 u42 u43 u44 u45 u46 u47 u48 u49 u50 u51 u52 u53 u54 u55 u56 u57 u58 u59 u60 u61 u62 u63 u64 u65 u66 u67 u68 u69 u70 u71 u72 u73 u74 u75 u76 u77 u78 u79 u80 u81 u82 u83 u84 u85 u86 u87 u88 u89 u90 u91 u92 u93 u94 u95 u96 u97 u98 u99 : Value, a = { tmps := #[u0, (.pointer (some ⟨w.heap.size, 0, none⟩)), (.pointer (some ⟨w.heap.size + 1, 0, none⟩)), (.pointer (some ⟨w.heap.size + 1 + 1, 0, none⟩)), (.pointer (some ⟨gi, 0, none⟩)), (.pointer (some ⟨b5, 0, none⟩)), u6, (.pointer (some ⟨b5 + 1, 0, none⟩)), (.pointer (some ⟨b5 + 1 + 1, 0, none⟩)), (.int .i64 x), u10, u11, u12, u13, u14, u15, u16, u17, u18, u19, u20, u21, u22, u23, u24, u25, u26, u27, u28, u29, u30, u31, u32, u33, u34, u35, u36, u37, u38, u39, u40, u41, u42, u43, u44, u45, u46, u47, u48, u49, u50, u51, u52, u53, u54, u55, u56, u57, u58, u59, u60, u61, u62, u63, u64, u65, u66, u67, u68, u69, u70, u71, u72, u73, u74, u75, u76, u77, u78, u79, u80, u81, u82, u83, u84, u85, u86, u87, u88, u89, u90, u91, u92, u93, u94, u95, u96, u97, u98, u99], defers := [] }

/-- Between two rounds of the range over a list's nodes. -/
def OwJ (w : World) (cs : Array Value) (gi b5 : Nat) (E : Option Addr) (n c i : Nat) (next head tail : List Int) (ds : List Deferred) (out : List (List Int)) (k : Nat) (x : Int) (W : World) : Prop :=
  ∃ ins l, OwS w W cs gi E n c ins ds ∧ Bk W b5 3 #[.int .i64 i] ∧ Bk W (b5 + 1) 3 #[.int .i64 (lastO l)] ∧ Bk W (b5 + 1 + 1) 3 #[.int .i64 x] ∧ Hid (OwM next head tail out l x ins ∧ k + hereN (metOf ins) n = n)
theorem OwJ.turn {w X Y : World} {cs : Array Value} {gi b5 C : Nat} {E : Option Addr} {n c i : Nat} {next head tail : List Int} {ds : List Deferred} {out : List (List Int)} {k : Nat} {x : Int} (h : OwJ w cs gi b5 E n c i next head tail ds out k x X)
    (ht : Turn C X Y) (hC : w.heap.size ≤ C) (hl : ∀ D, ({ target := .collected D, args := #[] } : Deferred) ∈ ds → D < C) : OwJ w cs gi b5 E n c i next head tail ds out k x Y := by
  obtain ⟨ins, l, h1, h2, h3, h4, h5⟩ := h
  exact ⟨ins, l, h1.turn ht hC hl, h2.turn ht, h3.turn ht, h4.turn ht, h5⟩
/-- Where a round has said 'no'. -/
def OwZ (w : World) (cs : Array Value) (gi : Nat) (E : Option Addr) (n c : Nat) (next head tail : List Int) (ds : List Deferred) (q : Code) (W : World) : Prop :=
  q = .ret ∧ ∃ ins, OwS w W cs gi E n c ins ds ∧ Hid (∀ qs, ¬ Rep next head tail qs)
theorem OwS.pushed {w wr : World} {cs : Array Value} {gi : Nat} {A : Option Addr} {n c : Nat} {ins : List Int} {ds : List Deferred} (h : OwS w wr cs gi A n c ins ds) {D : Nat} (hD : w.heap.size + 3 ≤ D) (hd : wr.heap[D]? = some (.deferred (some []))) (hl : ∀ E, ({ target := .collected E, args := #[] } : Deferred) ∈ ds → E < D) :
    OwS w wr cs gi A n c ins ({ target := .collected D, args := #[] } :: ds) :=
  ⟨h.box, h.r1, h.r2, h.below, h.inn, h.gilt, h.row, h.ilen, h.marks.push hD hd hl⟩
theorem OwS.res {w wr : World} {cs : Array Value} {gi : Nat} {A : Option Addr} {n c : Nat} {ins : List Int} {ds : List Deferred} (h : OwS w wr cs gi A n c ins ds) : OwS w ((wr.setCell ⟨w.heap.size + 1, 0, none⟩ (.slice none 0 0)).setCell ⟨w.heap.size + 1 + 1, 0, none⟩ (.bool false)) cs gi A n c ins ds := by
  have hgi := h.gilt
  have hr : ∀ g, g < w.heap.size + 3 → (Value.slice A ins.length c).ownBlock ≠ some g := fun g hg e => by have := h.row.block _ e; omega
  refine ⟨(h.box.far (by simp) _).far (by simp; omega) _, (h.r1.set_ 0 _).far (by simp) _, (h.r2.far (by simp) _).set_ 0 _, (h.below.setCell (p := ⟨w.heap.size + 1, 0, none⟩) (by simp) _).setCell (p := ⟨w.heap.size + 1 + 1, 0, none⟩) (by simp; omega) _,
    (h.inn.far (by simp; omega) _).far (by simp; omega) _, h.gilt, ⟨h.row.1, h.row.2.1, ownsRow_setCell_other (ownsRow_setCell_other h.row.2.2 (hr _ (by simp)) _) (hr _ (by simp)) _⟩, h.ilen, (h.marks.set_ h.r1 0 _).set_ (h.r2.far (by simp) _) 0 _⟩
theorem own_results (tmps : Array Value) (W : World) (g : Nat) (x : Option Addr) (y c : Nat) (bb : Bool) (h2 : tmps[2]?.getD undef = .pointer (some ⟨g + 1, 0, none⟩)) (h3 : tmps[3]?.getD undef = .pointer (some ⟨g + 1 + 1, 0, none⟩)) (k1 : W.cell? ⟨g + 1, 0, none⟩ = some (.slice x y c)) (k2 : W.cell? ⟨g + 1 + 1, 0, none⟩ = some (.bool bb)) :
    (results Try.f43 tmps).run Try.prog W = .ok (.tuple #[.slice x y c, .bool bb]) W := by
  simp [results, Try.results43, go_sem, h2, h3, k1, k2]
theorem OwS.leaveYes {next head tail : List Int} {out : List (List Int)} {tmps : Array Value} {w wr : World} {cs : Array Value} {gi : Nat} {A : Option Addr} {n c : Nat} {ins : List Int} {ds : List Deferred} (h : OwS w wr cs gi A n c ins ds) (r : Rep next head tail out) (hin : ins = inL next.length out) (hn : next.length = n)
    (h2 : tmps[2]?.getD undef = .pointer (some ⟨w.heap.size + 1, 0, none⟩)) (h3 : tmps[3]?.getD undef = .pointer (some ⟨w.heap.size + 1 + 1, 0, none⟩)) :
    LeavesInM Fence.wide 5 Try.prog Try.f43 tmps (OwnAns next head tail w) ds .returning ((wr.setCell ⟨w.heap.size + 1, 0, none⟩ (.slice A n c)).setCell ⟨w.heap.size + 1 + 1, 0, none⟩ (.bool true)) := by
  have hr : ∀ g, g < w.heap.size + 3 → (Value.slice A ins.length c).ownBlock ≠ some g := fun g hg e => by have := h.row.block _ e; omega
  refine leaves_marks (B := w.heap.size + 3) ds _ ((h.marks.set_ h.r1 0 _).set_ (h.r2.far (by simp) _) 0 _) fun w' ht => ?_
  have k1 : Bk w' (w.heap.size + 1) 22 #[.slice A n c] := ((h.r1.set_ 0 _).far (by simp) _).turn ht
  have k2 : Bk w' (w.heap.size + 1 + 1) 4 #[.bool true] := ((h.r2.far (by simp) _).set_ 0 _).turn ht
  refine ⟨_, own_results tmps w' w.heap.size A n c true h2 h3 k1.one k2.one, ?_⟩
  subst hn hin
  have hrow : OwnI 3 ((wr.setCell ⟨w.heap.size + 1, 0, none⟩ (.slice A next.length c)).setCell ⟨w.heap.size + 1 + 1, 0, none⟩ (.bool true)) (w.heap.size + 3) A c (inL next.length out) := ⟨h.row.1, h.row.2.1, ownsRow_setCell_other (ownsRow_setCell_other h.row.2.2 (hr _ (by simp)) _) (hr _ (by simp)) _⟩
  exact ⟨ht.below ((h.below.setCell (p := ⟨w.heap.size + 1, 0, none⟩) (by simp) _).setCell (p := ⟨w.heap.size + 1 + 1, 0, none⟩) (by simp; omega) _) (by omega) (Nat.le_refl _), .inl ⟨out, r, A, c, rfl, (hrow.turn ht).base (by omega)⟩⟩
/-- It leaves with 'no'. -/
theorem OwS.leave {next head tail : List Int} {tmps : Array Value} {w wr : World} {cs : Array Value} {gi : Nat} {A : Option Addr} {n c : Nat} {ins : List Int} {ds : List Deferred} (h : OwS w wr cs gi A n c ins ds) (hno : ∀ qs, ¬ Rep next head tail qs)
    (h2 : tmps[2]?.getD undef = .pointer (some ⟨w.heap.size + 1, 0, none⟩)) (h3 : tmps[3]?.getD undef = .pointer (some ⟨w.heap.size + 1 + 1, 0, none⟩)) :
    LeavesInM Fence.wide 5 Try.prog Try.f43 tmps (OwnAns next head tail w) ds .returning wr := by
  refine leaves_marks (B := w.heap.size + 3) ds wr h.marks fun w' ht => ?_
  refine ⟨_, own_results tmps w' w.heap.size none 0 0 false h2 h3 (h.r1.turn ht).one (h.r2.turn ht).one, ?_⟩
  exact own_no (ht.below h.below (by omega) (Nat.le_refl _)) hno rfl


set_option maxRecDepth 100000 in
set_option maxHeartbeats 40000000 in
theorem owners_main (A B D : Option Addr) (n a m b d : Nat) (next head tail : List Int) (w : World) (hA : Ints w A n next) (hB : Ints w B m head) (hD : Ints w D m tail) (h1 : n ≤ 1024) (h2 : 1 ≤ m) (h3 : m ≤ 256) :
    Calls Try.prog 43 #[.agg #[.slice A n a, .slice B m b, .slice D m d]] w (OwnAns next head tail w) := by
  have HA := Lib.hid hA
  have HB := Lib.hid hB
  have HD := Lib.hid hD
  have LA := Lib.hid hA.1
  have LB := Lib.hid hB.1
  have LD := Lib.hid hD.1
  have K1 := Bk.new w 24 #[.slice A n a, .slice B m b, .slice D m d]
  have K2 := Bk.new (w.alloc (.cells #[.slice A n a, .slice B m b, .slice D m d] 24)) 22 #[.slice none 0 0]
  have K3 := Bk.new ((w.alloc (.cells #[.slice A n a, .slice B m b, .slice D m d] 24)).alloc (.cells #[.slice none 0 0] 22)) 4 #[.bool false]
  rw [size_alloc] at K2
  rw [size_alloc, size_alloc] at K3
  replace K2 := K2.alloc (.cells #[.bool false] 4)
  replace K1 := (K1.alloc (.cells #[.slice none 0 0] 22)).alloc (.cells #[.bool false] 4)
  have hb3 : Below w.heap.size w (((w.alloc (.cells #[.slice A n a, .slice B m b, .slice D m d] 24)).alloc (.cells #[.slice none 0 0] 22)).alloc (.cells #[.bool false] 4)) := (((Below.refl w.heap.size w).alloc (Nat.le_refl _) _).alloc (by simp) _).alloc (by simp; omega) _
  have hs3 : (((w.alloc (.cells #[.slice A n a, .slice B m b, .slice D m d] 24)).alloc (.cells #[.slice none 0 0] 22)).alloc (.cells #[.bool false] 4)).heap.size = w.heap.size + 3 := by simp
  have a0 := K1.e0
  have a1 := K1.e1
  have a2 := K1.e2
  have hfill := filled_any (-1) (by unfold Fit; omega) n h1 (((w.alloc (.cells #[.slice A n a, .slice B m b, .slice D m d] 24)).alloc (.cells #[.slice none 0 0] 22)).alloc (.cells #[.bool false] 4))
  clear hA hB hD
  refine (callsIn_wide (n := 5)).1 ?_
  refine callsIn_of_wp_marks Try.func43 rfl trivial ?_
  simp only [Try.ntmps43, List.size_toArray, List.length_cons, List.length_nil, Nat.reduceAdd, Nat.reduceSub, Array.replicate_succ, Array.replicate_zero, List.push_toArray, List.append_toArray, List.nil_append, List.cons_append]
  gi_wp2_with (refine ⟨trivial, ?_⟩; gi_at_call 40; refine (callsIn_wide.2 hfill).mono ?_; rintro e w1 ⟨E, c, rfl, ho, hb1⟩; have KB1 := (K1.below hb1 K1.lt).alloc (.cells #[.slice E n c] 22); have a0 := KB1.e0; have a1 := KB1.e1; have a2 := KB1.e2)
  have hw1 : w.heap.size + 3 ≤ w1.heap.size := by have := hb1.size; rw [hs3] at this; exact this
  rw [hs3] at ho
  have S0 : Hid (OwS w (w1.alloc (.cells #[.slice E n c] 22)) #[.slice A n a, .slice B m b, .slice D m d] w1.heap.size E n c (List.replicate n (-1)) []) := Lib.hid
    ⟨KB1, (K2.below hb1 K2.lt).alloc _, (K3.below hb1 K3.lt).alloc _, (below3 hb3 hb1).alloc (by omega) _, Bk.new _ _ _, hw1, ho.below ((Below.refl w1.heap.size w1).alloc (Nat.le_refl _) _), by simp, trivial⟩
  have M0 := Lib.hid (owm_start next head tail)
  rw [LA.out] at M0
  clear hfill ho hb1 KB1 a0 a1 a2 K1 K2 K3 hb3 hs3 hw1
  generalize w1.alloc (.cells #[.slice E n c] 22) = w2 at S0 ⊢
  generalize w1.heap.size = gi at S0 ⊢
  refine wpIn_loop (fun a' wr => ∃ (i : Nat) (ds : List Deferred), i ≤ m ∧ OwI w #[.slice A n a, .slice B m b, .slice D m d] gi E n c i next head tail ds wr ∧ OwA w gi B m b i ds a') (fun a' _ => m - (intOf (a'.tmps.getD 44 undef)).toNat) ?_ ?_
  · exact ⟨0, [], Nat.zero_le _, ⟨_, [], S0.out, Lib.hid ⟨rfl, M0.out⟩⟩, ⟨_, _, _, _, _, _, _, _, _, _, _, _, _, _, _, _, _, _, _, _, _, _, _, _, _, _, _, _, _, _, _, _, _, _, _, _, _, _, _, _, _, _, _, _, _, _, _, _, _, _, _, _, _, _, _, _, _, _, _, _, _, _, _, _, _, _, _, _, _, _, _, _, _, _, _, _, _, _, _, _, _, _, _, _, _, _, _, _, _, _, _, _, _, rfl⟩⟩
  rintro a' wr ⟨i, ds, hi, ⟨ins, out, hS, HM⟩, ⟨u0, u5, u6, u7, u8, u9, u10, u11, u12, u13, u14, u15, u16, u17, u18, u19, u20, u21, u22, u23, u24, u25, u26, u27, u28, u29, u30, u31, u32, u33, u34, u35, u36, u37, u38, u39, u40, u41, u45, u46, u47, u48, u49, u50, u51, u52, u53, u54, u55, u56, u57, u58, u59, u60, u61, u62, u63, u64, u65, u66, u67, u68, u69, u70, u71, u72, u73, u74, u75, u76, u77, u78, u79, u80, u81, u82, u83, u84, u85, u86, u87, u88, u89, u90, u91, u92, u93, u94, u95, u96, u97, u98, u99, rfl⟩⟩
  have S := Lib.hid hS
  clear hS
  by_cases hlt : i < m
  · obtain ⟨bB, oB, rfl, hbB, hcB⟩ := HB.out.2.2.2 (by omega)
    have cb := (S.out.below.cell (p := ⟨bB, oB + i, none⟩) hbB).trans (hcB i hlt)
    obtain ⟨at0, hat0⟩ : ∃ x, nth head i = x := ⟨_, rfl⟩
    rw [hat0] at cb
    have HAT0 := Lib.hid hat0
    have hbw := (((Below.refl wr.heap.size wr).alloc (Nat.le_refl _) (.cells #[.int .i64 i] 3)).alloc (by simp) (.cells #[.int .i64 (-1)] 3)).alloc (by simp; omega) (.cells #[.int .i64 at0] 3)
    have S5 := Lib.hid (S.out.call hbw)
    have K5 := ((Bk.new wr 3 #[.int .i64 i]).alloc (.cells #[.int .i64 (-1)] 3)).alloc (.cells #[.int .i64 at0] 3)
    have K7 := (Bk.new (wr.alloc (.cells #[.int .i64 i] 3)) 3 #[.int .i64 (-1)]).alloc (.cells #[.int .i64 at0] 3)
    have K8 := Bk.new ((wr.alloc (.cells #[.int .i64 i] 3)).alloc (.cells #[.int .i64 (-1)] 3)) 3 #[.int .i64 at0]
    rw [size_alloc] at K7
    rw [size_alloc, size_alloc] at K8
    have hs5 : (((wr.alloc (.cells #[.int .i64 i] 3)).alloc (.cells #[.int .i64 (-1)] 3)).alloc (.cells #[.int .i64 at0] 3)).heap.size = wr.heap.size + 3 := by simp
    have x0 := S5.out.box.e0
    have x1 := S5.out.box.e1
    have x2 := S5.out.box.e2
    have x5 := K5.one
    have hnod := nodes_any (.agg #[.slice A n a, .slice (some ⟨bB, oB, none⟩) m b, .slice D m d]) _ rfl ⟨_, _, _, rfl⟩ i (((wr.alloc (.cells #[.int .i64 i] 3)).alloc (.cells #[.int .i64 (-1)] 3)).alloc (.cells #[.int .i64 at0] 3))
    have hgb : gi < wr.heap.size := S.out.inn.lt
    have hgl := S.out.gilt
    have hml : ∀ E, ({ target := .collected E, args := #[] } : Deferred) ∈ ds → E < wr.heap.size := fun E hE => S.out.marks.lt hE
    have hrl : ∀ k, (Value.slice E n c).ownBlock = some k → k < wr.heap.size := fun k hk => (S.out.row.que.block (n := n) (d := c) k hk).2
    clear a0 a1 a2 S0 M0
    gi_wp2_with (refine ⟨trivial, ?_⟩; gi_at_call 42; refine (callsIn_wide.2 hnod).mono ?_; rintro e w6 ⟨rfl, rfl⟩)
    have hbx := ((Below.refl _ (((wr.alloc (.cells #[.int .i64 i] 3)).alloc (.cells #[.int .i64 (-1)] 3)).alloc (.cells #[.int .i64 at0] 3))).alloc (Nat.le_refl _) (.cells #[.slice A n a, .slice (some ⟨bB, oB, none⟩) m b, .slice D m d] 24)).alloc (by simp) (.cells #[.int .i64 i] 3)
    have S6 := Lib.hid (S5.out.call hbx)
    have L6 := lie_new (w0 := w) (fun k hk => S5.out.below.block k hk) S5.out.below.size #[.slice A n a, .slice (some ⟨bB, oB, none⟩) m b, .slice D m d] i
    replace K5 := K5.below hbx K5.lt
    replace K7 := K7.below hbx K7.lt
    replace K8 := K8.below hbx K8.lt
    have hs6 := hbx.size
    rw [hs5] at hs6 L6
    have L6' : LieN w.heap.size (wr.heap.size + 1 + 1 + 1) w _ _ i := L6
    have hs6e : (((((wr.alloc (.cells #[.int .i64 i] 3)).alloc (.cells #[.int .i64 (-1)] 3)).alloc (.cells #[.int .i64 at0] 3)).alloc (.cells #[.slice A n a, .slice (some ⟨bB, oB, none⟩) m b, .slice D m d] 24)).alloc (.cells #[.int .i64 i] 3)).heap.size = wr.heap.size + 5 := by simp
    clear hbx x0 x1 x2 x5 hnod S5 hbw cb S L6 hs6 hs5
    generalize ((((wr.alloc (.cells #[.int .i64 i] 3)).alloc (.cells #[.int .i64 (-1)] 3)).alloc (.cells #[.int .i64 at0] 3)).alloc (.cells #[.slice A n a, .slice (some ⟨bB, oB, none⟩) m b, .slice D m d] 24)).alloc (.cells #[.int .i64 i] 3) = w6 at S6 L6' K5 K7 K8 hs6e ⊢
    generalize wr.heap.size = b5 at L6' K5 K7 K8 hs6e hgb hml hrl ⊢
    have hml' : ∀ E, ({ target := .collected E, args := #[] } : Deferred) ∈ ds → E < w6.heap.size := fun E hE => by have := hml E hE; omega
    have hww : w.heap.size ≤ w6.heap.size := by omega
    have hher := hereN_le (metOf ins) n
    have HOL : Hid (out.length < head.length) := Lib.hid (by rw [HM.out.1, LB.out]; exact hlt)
    have M6 : Hid (OwM next head tail out [] at0 ins) := Lib.hid (HAT0.out ▸ HM.out.2)
    have HON := Lib.hid HM.out.1
    have HS6 := Lib.hid hs6e
    refine range_nodes (gf := 49) (lb := #[.pointer (some ⟨b5 + 1 + 1 + 1, 0, none⟩), .pointer (some ⟨b5 + 1 + 1 + 1 + 1, 0, none⟩)]) rfl (enters_of Try.func49 (by kernel_rfl) rfl)
      (nodes1_seq 4 w.heap.size (b5 + 1 + 1 + 1) A (some ⟨bB, oB, none⟩) D n a m b m d next head i w w6 HA.out HB.out rfl hww hlt L6') rfl
      (OwJ w #[.slice A n a, .slice (some ⟨bB, oB, none⟩) m b, .slice D m d] gi b5 E n c i next head tail ds out) (OwZ w #[.slice A n a, .slice (some ⟨bB, oB, none⟩) m b, .slice D m d] gi E n c next head tail ds) (fun x a' _ => OwX w gi b5 x a')
      (fun k x X Y h ht => h.turn ht hww hml') (fun q X Y h ht => by obtain ⟨e, ins', h1, h2⟩ := h; exact ⟨e, ins', h1.turn ht hww hml', h2⟩) (fun x a' X Y h _ => h)
      (fun X Y hs ht => KpN.of_turn ht hww (by omega)) (fun h k => h.trans k) (n - hereN (metOf ins) n) ⟨ins, [], S6.out, K5, K7, HAT0.out ▸ K8, Lib.hid ⟨HAT0.out ▸ M6.out, by omega⟩⟩ ?hround ?hbody ?hdone ?hstop
    case hround =>
      intro l k x W hj hx0 hx1
      clear S6 L6' K5 K7 K8
      gi_wp2
      exact ⟨KeepsFrom.refl _ _, ⟨Nat.le_refl _, fun _ _ _ => rfl⟩, hj, ⟨_, _, _, _, _, _, _, _, _, _, _, _, _, _, _, _, _, _, _, _, _, _, _, _, _, _, _, _, _, _, _, _, _, _, _, _, _, _, _, _, _, _, _, _, _, _, _, _, _, _, _, _, _, _, _, _, _, _, _, _, _, _, _, _, _, _, _, _, _, _, _, _, _, _, _, _, _, _, _, _, _, _, _, _, _, _, _, _, _, _, _, _, rfl⟩⟩
    case hbody =>
      rintro l k x a' W ⟨ins', lq, hS, h5, h7, h8, HJ⟩ hx0 hx1 ⟨v0, v6, v10, v11, v12, v13, v14, v15, v16, v17, v18, v19, v20, v21, v22, v23, v24, v25, v26, v27, v28, v29, v30, v31, v32, v33, v34, v35, v36, v37, v38, v39, v40, v41, v42, v43, v44, v45, v46, v47, v48, v49, v50, v51, v52, v53, v54, v55, v56, v57, v58, v59, v60, v61, v62, v63, v64, v65, v66, v67, v68, v69, v70, v71, v72, v73, v74, v75, v76, v77, v78, v79, v80, v81, v82, v83, v84, v85, v86, v87, v88, v89, v90, v91, v92, v93, v94, v95, v96, v97, v98, v99, rfl⟩
      rw [LA.out] at hx1
      clear S6 L6' K5 K7 K8
      have S' := Lib.hid hS
      have hxl : x.toNat < ins'.length := by rw [hS.ilen]; omega
      obtain ⟨ga, rfl, hga, _, _, _⟩ := hS.row.form (by omega)
      have hgab : ga < b5 := hrl ga (by simp [Value.ownBlock])
      have c4 := hS.inn.one
      obtain ⟨cx, fx⟩ := hS.row.at_ hxl
      have p1 := hS.r1.one
      have p2 := hS.r2.one
      have q1 := hS.r1.frozen 0
      have q2 := hS.r2.frozen 0
      have hxz : ((x.toNat : Nat) : Int) = x := by omega
      have hxn : x.toNat < n := by omega
      obtain ⟨v, hv⟩ : ∃ v, nth ins' x.toNat = v := ⟨_, rfl⟩
      rw [hv] at cx
      have HV := Lib.hid hv
      have H5 := Lib.hid h5
      have H7 := Lib.hid h7
      have H8 := Lib.hid h8
      clear hS hv hxl
      by_cases hv : v = -1
      · have hvb : (v != -1) = false := by simpa using hv
        obtain ⟨bA, oA, rfl, hbA, hcA⟩ := HA.out.2.2.2 (by omega)
        have cn := hcA x.toNat hxn
        have HBA : Hid (bA < w.heap.size) := Lib.hid hbA
        obtain ⟨y, hy⟩ : ∃ y, nth next x.toNat = y := ⟨_, rfl⟩
        rw [hy] at cn
        have HCN := Lib.hid cn
        clear cn
        have HY := Lib.hid hy
        have c0' := S'.out.box.e0
        have c5 := h5.one
        have c7 := h7.one
        have c8 := h8.one
        have f7 := h7.frozen 0
        have f8 := h8.frozen 0
        have HVM := Lib.hid hv
        clear hbA hcA hy h5 h7 h8 p1 p2 q1 q2 hv
        have hxf : Fit x := by unfold Fit; omega
        have hif : Fit (i : Int) := by unfold Fit; omega
        have hBd : Below W.heap.size W W.drew := (Below.refl W.heap.size W).drew
        have Sd := S'.out.call hBd
        have S1 := Sd.mark x.toNat hif
        have K51 := (H5.out.drew).far (p := ⟨ga, x.toNat, none⟩) (by simp; omega) (.int .i64 (i : Int))
        have K71 := (H7.out.drew).far (p := ⟨ga, x.toNat, none⟩) (by simp; omega) (.int .i64 (i : Int))
        have K81 := (H8.out.drew).far (p := ⟨ga, x.toNat, none⟩) (by simp; omega) (.int .i64 (i : Int))
        have S2 := S1.num K71 (by omega) (fun k hk => by simp [Value.ownBlock] at hk; omega) (.int .i64 x)
        have K52 := K51.far (p := ⟨b5 + 1, 0, none⟩) (by simp) (.int .i64 x)
        have K72 := K71.set_ 0 (.int .i64 x)
        have K82 := K81.far (p := ⟨b5 + 1, 0, none⟩) (by simp) (.int .i64 x)
        have S3 := S2.num K82 (by omega) (fun k hk => by simp [Value.ownBlock] at hk; omega) (.int .i64 y)
        have K53 := K52.far (p := ⟨b5 + 1 + 1, 0, none⟩) (by simp; omega) (.int .i64 y)
        have K73 := K72.far (p := ⟨b5 + 1 + 1, 0, none⟩) (by simp) (.int .i64 y)
        have K83 := K82.set_ 0 (.int .i64 y)
        have MS := HJ.out.1.step hxz.symm (by rw [LA.out]; exact hxn) (by rw [HV.out]; exact HVM.out) (by rw [HON.out]; omega)
        have hkk : k - 1 < k ∧ k - 1 + hereN (metOf (ins'.set x.toNat (out.length : Int))) n = n := by
          have h0 := HJ.out.2
          have h3 := here_take (ls := metOf ins') (i := x.toNat) (n := n) (by rw [metOf_len, S'.out.ilen]) hxn (by rw [metOf_at (by rw [S'.out.ilen]; exact hxn), HV.out, HVM.out]; rfl)
          have h4 := hereN_le ((metOf ins').set x.toNat true) n
          rw [metOf_set]
          omega
        rw [HY.out, HON.out] at MS
        rw [HON.out] at hkk
        have HF : Hid (OwJ w #[.slice (some ⟨bA, oA, none⟩) n a, .slice (some ⟨bB, oB, none⟩) m b, .slice D m d] gi b5 (some ⟨ga, 0, none⟩) n c i next head tail ds out (k - 1) (nth next x.toNat) (((W.drew.setCell ⟨ga, x.toNat, none⟩ (.int .i64 (i : Int))).setCell ⟨b5 + 1, 0, none⟩ (.int .i64 x)).setCell ⟨b5 + 1 + 1, 0, none⟩ (.int .i64 y))) :=
          Lib.hid ⟨_, lq ++ [x], S3, K53, by rw [last_snoc]; exact K73, by rw [HY.out]; exact K83, Lib.hid ⟨HY.out ▸ MS, hkk.2⟩⟩
        have HKK := Lib.hid hkk.1
        have HKF : Hid (KeepsFrom w6.heap.size W (((W.drew.setCell ⟨ga, x.toNat, none⟩ (.int .i64 (i : Int))).setCell ⟨b5 + 1, 0, none⟩ (.int .i64 x)).setCell ⟨b5 + 1 + 1, 0, none⟩ (.int .i64 y))) := Lib.hid ((((KeepsOthers.drew W).trans (KeepsOthers.setCell _ _ _)).trans (KeepsOthers.setCell _ _ _)).trans (KeepsOthers.setCell _ _ _)|>.from _)
        have HKN : Hid (KpN w.heap.size (b5 + 1 + 1 + 1) W (((W.drew.setCell ⟨ga, x.toNat, none⟩ (.int .i64 (i : Int))).setCell ⟨b5 + 1, 0, none⟩ (.int .i64 x)).setCell ⟨b5 + 1 + 1, 0, none⟩ (.int .i64 y))) :=
          Lib.hid ((((show KpN w.heap.size (b5 + 1 + 1 + 1) W W.drew from ⟨Nat.le_refl _, fun _ _ _ => rfl⟩).trans (KpN.set_ (p := ⟨ga, x.toNat, none⟩) (by simp only []; omega) (by simp only []; omega) (by simp only []; omega) _)).trans (KpN.set_ (p := ⟨b5 + 1, 0, none⟩) (by simp only []; omega) (by simp only []; omega) (by simp only []; omega) _)).trans (KpN.set_ (p := ⟨b5 + 1 + 1, 0, none⟩) (by simp only []; omega) (by simp only []; omega) (by simp only []; omega) _))
        clear MS hkk hBd
        gi_wp2
        refine region_round (S := fun U => (∃ ins2, OwS w U #[.slice (some ⟨bA, oA, none⟩) n a, .slice (some ⟨bB, oB, none⟩) m b, .slice D m d] gi (some ⟨ga, 0, none⟩) n c ins2 ds) ∧ Bk U b5 3 #[.int .i64 i] ∧ U.cell? ⟨bA, oA + x.toNat, none⟩ = some (.int .i64 y)) (by kernel_rfl) (by kernel_rfl) ?_
        have hcn : ∀ (U : World), Below w.heap.size w U → U.cell? ⟨bA, oA + x.toNat, none⟩ = some (.int .i64 y) := fun U hU => (hU.cell (p := ⟨bA, oA + x.toNat, none⟩) HBA.out).trans HCN.out
        have T1 := hcn _ S1.below
        have T2 := hcn _ S2.below
        have T3 := hcn _ S3.below
        have hSd : (∃ ins2, OwS w W.drew #[.slice (some ⟨bA, oA, none⟩) n a, .slice (some ⟨bB, oB, none⟩) m b, .slice D m d] gi (some ⟨ga, 0, none⟩) n c ins2 ds) ∧ Bk W.drew b5 3 #[.int .i64 i] ∧ W.drew.cell? ⟨bA, oA + x.toNat, none⟩ = some (.int .i64 y) := ⟨⟨_, Sd⟩, H5.out.drew, hcn _ Sd.below⟩
        refine take_at (i := 0) (d := 59) (v := .slice (some ⟨ga, 0, none⟩) n c) rfl rfl (by kernel_rfl) (by kernel_rfl) (by kernel_rfl) (fun _ _ _ h => by cases h.1) (.inl ⟨by rfl, fun U hU => by obtain ⟨⟨ins2, h1⟩, h2, h3⟩ := hU; have h4 := h1.inn.one; go_simp⟩) hSd ?_
        refine take_at (i := 1) (d := 60) (v := .int .i64 x) rfl rfl (by kernel_rfl) (by kernel_rfl) (by kernel_rfl) (fun _ _ _ h => by cases h.1) (.inl ⟨by rfl, fun U hU => by go_simp⟩) hSd ?_
        refine take_at (i := 2) (d := 61) (v := .int .i64 i) rfl rfl (by kernel_rfl) (by kernel_rfl) (by kernel_rfl) (fun _ _ _ h => by cases h.1) (.inl ⟨by rfl, fun U hU => by obtain ⟨⟨ins2, h1⟩, h2, h3⟩ := hU; have h4 := h2.one; go_simp⟩) hSd ?_
        refine take_at (i := 3) (d := 62) (v := .int .i64 x) rfl rfl (by kernel_rfl) (by kernel_rfl) (by kernel_rfl) (fun _ _ _ h => by cases h.1) (.inl ⟨by rfl, fun U hU => by go_simp⟩) hSd ?_
        refine take_at (i := 4) (d := 63) (v := .pointer (some ⟨w.heap.size, 0, none⟩)) rfl rfl (by kernel_rfl) (by kernel_rfl) (by kernel_rfl) (fun _ _ _ h => by cases h.1) (.inl ⟨by rfl, fun U hU => by go_simp⟩) hSd ?_
        refine take_at (i := 5) (d := 64) (v := .slice (some ⟨bA, oA, none⟩) n a) rfl rfl (by kernel_rfl) (by kernel_rfl) (by kernel_rfl) (fun _ _ _ h => by cases h.1) (.inl ⟨by rfl, fun U hU => by obtain ⟨⟨ins2, h1⟩, h2, h3⟩ := hU; have h4 := h1.box.e0; go_simp⟩) hSd ?_
        refine take_at (i := 6) (d := 65) (v := .int .i64 x) rfl rfl (by kernel_rfl) (by kernel_rfl) (by kernel_rfl) (fun _ _ _ h => by cases h.1) (.inl ⟨by rfl, fun U hU => by go_simp⟩) hSd ?_
        refine take_at (i := 7) (d := 66) (v := .pointer (some ⟨bA, oA + x.toNat, none⟩)) rfl rfl (by kernel_rfl) (by kernel_rfl) (by kernel_rfl) (fun _ _ _ h => by cases h.1) (.inl ⟨by rfl, fun U hU => by go_simp⟩) hSd ?_
        refine take_at (i := 8) (d := 67) (v := .int .i64 y) rfl rfl (by kernel_rfl) (by kernel_rfl) (by kernel_rfl) (fun _ _ _ h => by cases h.1) (.inl ⟨by rfl, fun U hU => by obtain ⟨⟨ins2, h1⟩, h2, h3⟩ := hU; go_simp⟩) hSd ?_
        refine take_at (i := 9) (d := 68) (v := .pointer (some ⟨ga, x.toNat, none⟩)) rfl rfl (by kernel_rfl) (by kernel_rfl) (by kernel_rfl) (fun _ _ _ h => by cases h.1) (.inl ⟨by rfl, fun U hU => by go_simp⟩) hSd ?_
        refine wpAnyH_all (rs := [10]) (by kernel_rfl) (by simp) ?_
        intro i' hi'
        simp only [List.mem_cons, List.not_mem_nil, or_false] at hi'
        subst hi'
        unfold wpOp
        go_simp
        left
        refine ⟨⟨⟨_, S1⟩, K51, T1⟩, ?_⟩
        refine wpAnyH_all (rs := [11]) (by kernel_rfl) (by simp) ?_
        intro i' hi'
        simp only [List.mem_cons, List.not_mem_nil, or_false] at hi'
        subst hi'
        unfold wpOp
        go_simp
        left
        refine ⟨⟨⟨_, S2⟩, K52, T2⟩, ?_⟩
        refine wpAnyH_all (rs := [12]) (by kernel_rfl) (by simp) ?_
        intro i' hi'
        simp only [List.mem_cons, List.not_mem_nil, or_false] at hi'
        subst hi'
        unfold wpOp
        go_simp
        left
        refine ⟨⟨⟨_, S3⟩, K53, T3⟩, ?_⟩
        refine ⟨by kernel_rfl, rfl, ?_⟩
        clear Sd S1 S2 S3 T1 T2 T3 hSd hcn K51 K71 K81 K52 K72 K82 K53 K73 K83
        gi_wp2
        exact ⟨HKF.out, HKN.out, _, HKK.out, HF.out⟩
      · have hvb : (v != -1) = true := by simpa using hv
        have HNO := Lib.hid (fun qs => HJ.out.1.par.fail_at (qs := qs) HOL.out (by omega) (.inr (.inr (by rw [metOf_at (by rw [S'.out.ilen]; exact hxn), HV.out]; exact hvb))))
        clear h5 h7 h8 hv
        gi_wp2
        exact ⟨((KeepsOthers.setCell _ _ _).trans (KeepsOthers.setCell _ _ _)).from _, rfl, ins', S'.out.res, HNO⟩
    case hdone =>
      rintro D' k x W hD hx ⟨ins', lq, hS, h5, h7, h8, HJ⟩ hd
      clear S6 L6' K5 K7 K8
      have S' := Lib.hid (hS.pushed (by omega) hd fun E hE => by have := hml' E hE; omega)
      obtain ⟨bD, oD, rfl, hbD, hcD⟩ := HD.out.2.2.2 (by omega)
      have cd := (S'.out.below.cell (p := ⟨bD, oD + i, none⟩) hbD).trans (hcD i hlt)
      obtain ⟨z, hz⟩ : ∃ z, nth tail i = z := ⟨_, rfl⟩
      rw [hz] at cd
      have HZ := Lib.hid hz
      have c0' := S'.out.box.e2
      have c5 := h5.one
      have c7 := h7.one
      have c8 := h8.one
      obtain ⟨y, hy⟩ : ∃ y, lastO lq = y := ⟨_, rfl⟩
      rw [hy] at c7
      have HYL := Lib.hid hy
      have p1 := hS.r1.one
      have p2 := hS.r2.one
      have q1 := hS.r1.frozen 0
      have q2 := hS.r2.frozen 0
      rw [LA.out] at hx
      clear hS h5 h7 h8 hbD hcD hz hy hd
      have Sd := Lib.hid (S'.out.call (Below.refl W.heap.size W).drew)
      have SF := Lib.hid Sd.out.res
      by_cases hyz : y = z
      · have hyzb : (y != z) = false := by simpa using hyz
        by_cases hx1 : x = -1
        · have hxb : (x != -1) = false := by simpa using hx1
          have HT : Hid (nth tail out.length = lastO lq) := Lib.hid (by rw [HON.out, HZ.out, HYL.out, hyz])
          have MN := Lib.hid (HJ.out.1.next_ hx1 HT.out)
          have HE : Hid (OwI w #[.slice A n a, .slice (some ⟨bB, oB, none⟩) m b, .slice (some ⟨bD, oD, none⟩) m d] gi E n c (i + 1) next head tail ({ target := .collected D', args := #[] } :: ds) W.drew) :=
            Lib.hid ⟨ins', out ++ [lq], Sd.out, Lib.hid ⟨by rw [List.length_append, HON.out]; rfl, by have := MN.out; rwa [HON.out] at this⟩⟩
          have hiw : IntKind.i64.wrap ((i : Int) + 1) = (i : Int) + 1 := by rw [IntKind.wrap_i64]; omega
          clear hyz p1 p2 q1 q2
          gi_wp2
          refine region_round (S := fun U => U = W.drew) (by kernel_rfl) (by kernel_rfl) ?_
          refine take_at (i := 0) (d := 69) (v := .int .i64 y) rfl rfl (by kernel_rfl) (by kernel_rfl) (by kernel_rfl) (fun _ _ _ h => by cases h.1) (.inl ⟨by kernel_rfl, fun U hU => by subst hU; go_simp⟩) rfl ?_
          refine take_at (i := 1) (d := 70) (v := .pointer (some ⟨w.heap.size, 2, none⟩)) rfl rfl (by kernel_rfl) (by kernel_rfl) (by kernel_rfl) (fun _ _ _ h => by cases h.1) (.inl ⟨by kernel_rfl, fun U hU => by subst hU; go_simp⟩) rfl ?_
          refine take_at (i := 2) (d := 71) (v := .slice (some ⟨bD, oD, none⟩) m d) rfl rfl (by kernel_rfl) (by kernel_rfl) (by kernel_rfl) (fun _ _ _ h => by cases h.1) (.inl ⟨by kernel_rfl, fun U hU => by subst hU; go_simp⟩) rfl ?_
          refine take_at (i := 3) (d := 72) (v := .int .i64 i) rfl rfl (by kernel_rfl) (by kernel_rfl) (by kernel_rfl) (fun _ _ _ h => by cases h.1) (.inl ⟨by kernel_rfl, fun U hU => by subst hU; go_simp⟩) rfl ?_
          refine take_at (i := 4) (d := 73) (v := .pointer (some ⟨bD, oD + i, none⟩)) rfl rfl (by kernel_rfl) (by kernel_rfl) (by kernel_rfl) (fun _ _ _ h => by cases h.1) (.inl ⟨by kernel_rfl, fun U hU => by subst hU; go_simp⟩) rfl ?_
          refine take_at (i := 5) (d := 74) (v := .int .i64 z) rfl rfl (by kernel_rfl) (by kernel_rfl) (by kernel_rfl) (fun _ _ _ h => by cases h.1) (.inl ⟨by kernel_rfl, fun U hU => by subst hU; go_simp⟩) rfl ?_
          refine take_at (i := 6) (d := 75) (v := .bool false) rfl rfl (by kernel_rfl) (by kernel_rfl) (by kernel_rfl) (fun _ _ _ h => by cases h.1) (.inl ⟨by kernel_rfl, fun U hU => by subst hU; go_simp⟩) rfl ?_
          refine take_at (i := 7) (d := 76) (v := .bool false) rfl rfl (by kernel_rfl) (by kernel_rfl) (by kernel_rfl) (fun _ _ _ h => by cases h.1) (.inl ⟨by kernel_rfl, fun U hU => by subst hU; go_simp⟩) rfl ?_
          refine take_at (i := 8) (d := 77) (v := .int .i64 x) rfl rfl (by kernel_rfl) (by kernel_rfl) (by kernel_rfl) (fun _ _ _ h => by cases h.1) (.inl ⟨by kernel_rfl, fun U hU => by subst hU; go_simp⟩) rfl ?_
          refine take_at (i := 9) (d := 78) (v := .bool false) rfl rfl (by kernel_rfl) (by kernel_rfl) (by kernel_rfl) (fun _ _ _ h => by cases h.1) (.inl ⟨by kernel_rfl, fun U hU => by subst hU; go_simp⟩) rfl ?_
          refine take_at (i := 10) (d := 79) (v := .bool false) rfl rfl (by kernel_rfl) (by kernel_rfl) (by kernel_rfl) (fun _ _ _ h => by cases h.1) (.inl ⟨by kernel_rfl, fun U hU => by subst hU; go_simp⟩) rfl ?_
          refine wpAnyH_done (by kernel_rfl) ?_ _
          refine ⟨rfl, ?_⟩
          simp only [Act.put, List.setIfInBounds_toArray, List.set_cons_zero, List.set_cons_succ]
          gi_wp2
          exact ⟨⟨i + 1, _, by omega, HE.out, ⟨_, _, _, _, _, _, _, _, _, _, _, _, _, _, _, _, _, _, _, _, _, _, _, _, _, _, _, _, _, _, _, _, _, _, _, _, _, _, _, _, _, _, _, _, _, _, _, _, _, _, _, _, _, _, _, _, _, _, _, _, _, _, _, _, _, _, _, _, _, _, _, _, _, _, _, _, _, _, _, _, _, _, _, _, _, _, _, _, _, _, _, _, _, rfl⟩⟩, by simp [intOf]; omega⟩
        · have hxb : (x != -1) = true := by simpa using hx1
          have HNO := Lib.hid (fun qs => HJ.out.1.par.fail_at (qs := qs) HOL.out hx1 (by rcases hx with h | h; exact .inl h; exact .inr (.inl (by rw [LA.out]; exact h))))
          clear hyz
          gi_wp2
          refine region_round (S := fun U => U = W.drew) (by kernel_rfl) (by kernel_rfl) ?_
          refine take_at (i := 0) (d := 69) (v := .int .i64 y) rfl rfl (by kernel_rfl) (by kernel_rfl) (by kernel_rfl) (fun _ _ _ h => by cases h.1) (.inl ⟨by kernel_rfl, fun U hU => by subst hU; go_simp⟩) rfl ?_
          refine take_at (i := 1) (d := 70) (v := .pointer (some ⟨w.heap.size, 2, none⟩)) rfl rfl (by kernel_rfl) (by kernel_rfl) (by kernel_rfl) (fun _ _ _ h => by cases h.1) (.inl ⟨by kernel_rfl, fun U hU => by subst hU; go_simp⟩) rfl ?_
          refine take_at (i := 2) (d := 71) (v := .slice (some ⟨bD, oD, none⟩) m d) rfl rfl (by kernel_rfl) (by kernel_rfl) (by kernel_rfl) (fun _ _ _ h => by cases h.1) (.inl ⟨by kernel_rfl, fun U hU => by subst hU; go_simp⟩) rfl ?_
          refine take_at (i := 3) (d := 72) (v := .int .i64 i) rfl rfl (by kernel_rfl) (by kernel_rfl) (by kernel_rfl) (fun _ _ _ h => by cases h.1) (.inl ⟨by kernel_rfl, fun U hU => by subst hU; go_simp⟩) rfl ?_
          refine take_at (i := 4) (d := 73) (v := .pointer (some ⟨bD, oD + i, none⟩)) rfl rfl (by kernel_rfl) (by kernel_rfl) (by kernel_rfl) (fun _ _ _ h => by cases h.1) (.inl ⟨by kernel_rfl, fun U hU => by subst hU; go_simp⟩) rfl ?_
          refine take_at (i := 5) (d := 74) (v := .int .i64 z) rfl rfl (by kernel_rfl) (by kernel_rfl) (by kernel_rfl) (fun _ _ _ h => by cases h.1) (.inl ⟨by kernel_rfl, fun U hU => by subst hU; go_simp⟩) rfl ?_
          refine take_at (i := 6) (d := 75) (v := .bool false) rfl rfl (by kernel_rfl) (by kernel_rfl) (by kernel_rfl) (fun _ _ _ h => by cases h.1) (.inl ⟨by kernel_rfl, fun U hU => by subst hU; go_simp⟩) rfl ?_
          refine take_at (i := 7) (d := 76) (v := .bool false) rfl rfl (by kernel_rfl) (by kernel_rfl) (by kernel_rfl) (fun _ _ _ h => by cases h.1) (.inl ⟨by kernel_rfl, fun U hU => by subst hU; go_simp⟩) rfl ?_
          refine take_at (i := 8) (d := 77) (v := .int .i64 x) rfl rfl (by kernel_rfl) (by kernel_rfl) (by kernel_rfl) (fun _ _ _ h => by cases h.1) (.inl ⟨by kernel_rfl, fun U hU => by subst hU; go_simp⟩) rfl ?_
          refine take_at (i := 9) (d := 78) (v := .bool true) rfl rfl (by kernel_rfl) (by kernel_rfl) (by kernel_rfl) (fun _ _ _ h => by cases h.1) (.inl ⟨by kernel_rfl, fun U hU => by subst hU; go_simp⟩) rfl ?_
          refine take_at (i := 10) (d := 79) (v := .bool true) rfl rfl (by kernel_rfl) (by kernel_rfl) (by kernel_rfl) (fun _ _ _ h => by cases h.1) (.inl ⟨by kernel_rfl, fun U hU => by subst hU; go_simp⟩) rfl ?_
          refine wpAnyH_done (by kernel_rfl) ?_ _
          refine ⟨rfl, ?_⟩
          simp only [Act.put, List.setIfInBounds_toArray, List.set_cons_zero, List.set_cons_succ]
          gi_wp2
          exact SF.out.leave HNO.out rfl rfl
      · have hyzb : (y != z) = true := by simpa using hyz
        have HNO : Hid (∀ qs, ¬ Rep next head tail qs) := Lib.hid (fun qs => by
          by_cases hx1 : x = -1
          · exact HJ.out.1.par.fail_tail (qs := qs) HOL.out hx1 (by rw [HON.out, HZ.out, HYL.out]; exact fun e => hyz e.symm)
          · exact HJ.out.1.par.fail_at (qs := qs) HOL.out hx1 (by rcases hx with h | h; exact .inl h; exact .inr (.inl (by rw [LA.out]; exact h))))
        clear hyz
        gi_wp2
        refine region_round (S := fun U => U = W.drew) (by kernel_rfl) (by kernel_rfl) ?_
        refine take_at (i := 0) (d := 69) (v := .int .i64 y) rfl rfl (by kernel_rfl) (by kernel_rfl) (by kernel_rfl) (fun _ _ _ h => by cases h.1) (.inl ⟨by kernel_rfl, fun U hU => by subst hU; go_simp⟩) rfl ?_
        refine take_at (i := 1) (d := 70) (v := .pointer (some ⟨w.heap.size, 2, none⟩)) rfl rfl (by kernel_rfl) (by kernel_rfl) (by kernel_rfl) (fun _ _ _ h => by cases h.1) (.inl ⟨by kernel_rfl, fun U hU => by subst hU; go_simp⟩) rfl ?_
        refine take_at (i := 2) (d := 71) (v := .slice (some ⟨bD, oD, none⟩) m d) rfl rfl (by kernel_rfl) (by kernel_rfl) (by kernel_rfl) (fun _ _ _ h => by cases h.1) (.inl ⟨by kernel_rfl, fun U hU => by subst hU; go_simp⟩) rfl ?_
        refine take_at (i := 3) (d := 72) (v := .int .i64 i) rfl rfl (by kernel_rfl) (by kernel_rfl) (by kernel_rfl) (fun _ _ _ h => by cases h.1) (.inl ⟨by kernel_rfl, fun U hU => by subst hU; go_simp⟩) rfl ?_
        refine take_at (i := 4) (d := 73) (v := .pointer (some ⟨bD, oD + i, none⟩)) rfl rfl (by kernel_rfl) (by kernel_rfl) (by kernel_rfl) (fun _ _ _ h => by cases h.1) (.inl ⟨by kernel_rfl, fun U hU => by subst hU; go_simp⟩) rfl ?_
        refine take_at (i := 5) (d := 74) (v := .int .i64 z) rfl rfl (by kernel_rfl) (by kernel_rfl) (by kernel_rfl) (fun _ _ _ h => by cases h.1) (.inl ⟨by kernel_rfl, fun U hU => by subst hU; go_simp⟩) rfl ?_
        refine take_at (i := 6) (d := 75) (v := .bool true) rfl rfl (by kernel_rfl) (by kernel_rfl) (by kernel_rfl) (fun _ _ _ h => by cases h.1) (.inl ⟨by kernel_rfl, fun U hU => by subst hU; go_simp⟩) rfl ?_
        refine take_at (i := 7) (d := 76) (v := .bool true) rfl rfl (by kernel_rfl) (by kernel_rfl) (by kernel_rfl) (fun _ _ _ h => by cases h.1) (.inl ⟨by kernel_rfl, fun U hU => by subst hU; go_simp⟩) rfl ?_
        refine take_at (i := 8) (d := 77) (v := undef) rfl rfl (by kernel_rfl) (by kernel_rfl) (by kernel_rfl) (fun _ _ _ h => by cases h.1) (.inr ⟨by kernel_rfl, rfl⟩) rfl ?_
        refine take_at (i := 9) (d := 78) (v := undef) rfl rfl (by kernel_rfl) (by kernel_rfl) (by kernel_rfl) (fun _ _ _ h => by cases h.1) (.inr ⟨by kernel_rfl, rfl⟩) rfl ?_
        refine take_at (i := 10) (d := 79) (v := .bool true) rfl rfl (by kernel_rfl) (by kernel_rfl) (by kernel_rfl) (fun _ _ _ h => by cases h.1) (.inl ⟨by kernel_rfl, fun U hU => by subst hU; go_simp⟩) rfl ?_
        refine wpAnyH_done (by kernel_rfl) ?_ _
        refine ⟨rfl, ?_⟩
        simp only [Act.put, List.setIfInBounds_toArray, List.set_cons_zero, List.set_cons_succ]
        gi_wp2
        exact SF.out.leave HNO.out rfl rfl
    case hstop =>
      rintro D' q W hD ⟨rfl, ins', hS, HNO⟩ hd
      have S' := Lib.hid (hS.pushed (by omega) hd fun E hE => by have := hml' E hE; omega)
      clear hS hd
      gi_wp2
      exact S'.out.leave HNO.out rfl rfl
  · obtain rfl : i = m := by omega
    have c4 := S.out.inn.one
    have c0 := S.out.box.e0
    have p1 := S.out.r1.one
    have p2 := S.out.r2.one
    have q1 := S.out.r1.frozen 0
    have q2 := S.out.r2.frozen 0
    have SR := Lib.hid S.out.res
    clear a0 a1 a2 S0 M0
    gi_wp2
    gi_loopw [83] (fun t wr' => ∃ j : Nat, j ≤ n ∧ t = .int .i64 j ∧ wr' = wr ∧ Hid (∀ x, x < j → nth ins x = -1 → nth next x = -2)) (fun t _ => n - (intOf t).toNat)
    case atStart => exact ⟨0, Nat.zero_le _, rfl, rfl, Lib.hid (fun x hx => by omega)⟩
    case round =>
      obtain ⟨j, hj, rfl, rfl, HX⟩ := hrel
      by_cases hlt2 : j < n
      · have hjl : j < ins.length := by rw [S.out.ilen]; exact hlt2
        obtain ⟨ga, rfl, _, _, _, _⟩ := S.out.row.form (by omega)
        have cx := (S.out.row.at_ hjl).1
        obtain ⟨bA, oA, rfl, hbA, hcA⟩ := HA.out.2.2.2 (by omega)
        have cn := (S.out.below.cell (p := ⟨bA, oA + j, none⟩) hbA).trans (hcA j hlt2)
        obtain ⟨v, hv⟩ : ∃ v, nth ins j = v := ⟨_, rfl⟩
        obtain ⟨y, hy⟩ : ∃ y, nth next j = y := ⟨_, rfl⟩
        rw [hv] at cx
        rw [hy] at cn
        have HV := Lib.hid hv
        have HY := Lib.hid hy
        have hjw : IntKind.i64.wrap ((j : Int) + 1) = (j : Int) + 1 := by rw [IntKind.wrap_i64]; omega
        clear hbA hcA hv hy hjl
        by_cases hvm : v = -1
        · have hvb : (v == -1) = true := by simpa using hvm
          by_cases hym : y = -2
          · have hyb : (y != -2) = false := by simpa using hym
            have HX2 : Hid (∀ x, x < j + 1 → nth ins x = -1 → nth next x = -2) := Lib.hid (fun x hx h1 => by
              rcases Nat.lt_or_ge x j with h | h
              · exact HX.out x h h1
              · obtain rfl : x = j := by omega
                rw [HY.out, hym])
            clear hvm hym
            gi_wp2
            exact ⟨⟨j + 1, by omega, by go_num, trivial, HX2⟩, by simp [intOf]; omega⟩
          · have hyb : (y != -2) = true := by simpa using hym
            have HNO := Lib.hid (fun qs => HM.out.2.par.fail_out (qs := qs) (x := j) (by rw [HM.out.1, LB.out]) (by rw [LA.out]; exact hlt2) (by rw [metOf_at (by rw [S.out.ilen]; exact hlt2), HV.out, hvm]; rfl) (by rw [HY.out]; exact hym))
            clear hvm hym
            gi_wp2
            exact SR.out.leave HNO.out rfl rfl
        · have hvb : (v == -1) = false := by simpa using hvm
          have HX2 : Hid (∀ x, x < j + 1 → nth ins x = -1 → nth next x = -2) := Lib.hid (fun x hx h1 => by
            rcases Nat.lt_or_ge x j with h | h
            · exact HX.out x h h1
            · obtain rfl : x = j := by omega
              rw [HV.out] at h1
              exact absurd h1 hvm)
          clear hvm
          gi_wp2
          exact ⟨⟨j + 1, by omega, by go_num, trivial, HX2⟩, by simp [intOf]; omega⟩
      · have HR : Hid (Rep next head tail out) := Lib.hid (HM.out.2.par.done (by rw [LA.out]; exact h1) (by rw [LB.out]; exact h2) (by rw [LB.out]; exact h3) (by rw [LD.out, LB.out]) (by rw [HM.out.1, LB.out]) (fun x hx hb => by
          rw [metOf_at (by rw [HM.out.2.len]; exact hx)] at hb
          exact HX.out x (by rw [LA.out] at hx; omega) (by simpa using hb)))
        have HI := Lib.hid (HM.out.2.done HR.out)
        gi_wp2
        exact S.out.leaveYes HR.out HI.out LA.out rfl rfl

end Go.Proofs.Ytiheeehegjfmgaa

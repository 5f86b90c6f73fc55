/-
  What the document's Of keeps in its loops: the nodes that are linked so far; three rows of numbers in one variable, each in a block apart.
-/
import Derived.Test.YtiheeehegjfmgaaCp
namespace Go.Proofs.Ytiheeehegjfmgaa
open Go.RowKit

/-- The nodes of the lists ahead of list i, and those of list i from place p on. -/
def DnP (qs : List (List Int)) (i p : Nat) (x : Int) : Prop := (∃ j q, j < i ∧ q < (qth qs j).length ∧ nth (qth qs j) q = x) ∨ (∃ q, p ≤ q ∧ q < (qth qs i).length ∧ nth (qth qs i) q = x)
structure OfM (next : List Int) (qs : List (List Int)) (i p : Nat) (cur : List Int) : Prop where
  len : cur.length = next.length
  yes : ∀ x, x < next.length → DnP qs i p (x : Int) → nth cur x = nth next x
  no : ∀ x, x < next.length → ¬ DnP qs i p (x : Int) → nth cur x = -2
/-- What is ahead of place k. -/
def hdK (l : List Int) (k : Nat) : Int := if k < l.length then nth l k else -1
theorem hdK_last (l : List Int) : hdK l l.length = -1 := if_neg (by omega)
theorem hdK_zero (l : List Int) : hdK l 0 = headO l := by
  unfold hdK headO
  by_cases h : l.length = 0
  · rw [if_neg (by omega), if_pos h]
  · rw [if_pos (by omega), if_neg h]

section
variable {next head tail cur : List Int} {qs : List (List Int)} {i p : Nat}
theorem ofm_start (next : List Int) (qs : List (List Int)) (n : Nat) (hn : n = next.length) : OfM next qs 0 (qth qs 0).length (List.replicate n (-2)) := by
  subst hn
  refine ⟨by simp, fun x hx h => ?_, fun x hx _ => by rw [nth_get (by simpa using hx)]; simp⟩
  rcases h with ⟨j, q, hj, _⟩ | ⟨q, h1, h2, _⟩ <;> omega
theorem OfM.step (h : OfM next qs i (p + 1) cur) (r : Rep next head tail qs) (hi : i < qs.length) (hp : p < (qth qs i).length) : OfM next qs i p (cur.set (nth (qth qs i) p).toNat (hdK (qth qs i) (p + 1))) := by
  obtain ⟨r1, r2⟩ := r.rng i p hi hp
  have hz : (((nth (qth qs i) p).toNat : Nat) : Int) = nth (qth qs i) p := by omega
  have hnx := r.nx i p hi hp
  have hset : ∀ x, x < next.length → nth (cur.set (nth (qth qs i) p).toNat (hdK (qth qs i) (p + 1))) x = if (nth (qth qs i) p).toNat = x then hdK (qth qs i) (p + 1) else nth cur x := fun x hx => nth_set _ _ _ _ (by rw [h.len]; exact hx)
  refine ⟨by rw [List.length_set]; exact h.len, fun x hx hd => ?_, fun x hx hd => ?_⟩
  · rw [hset x hx]
    split
    · rename_i e
      rw [← e, hnx]
      rfl
    · rename_i e
      refine h.yes x hx ?_
      rcases hd with hd | ⟨q, h1, h2, h3⟩
      · exact .inl hd
      · refine .inr ⟨q, ?_, h2, h3⟩
        rcases Nat.lt_or_ge p q with a | a
        · omega
        · obtain rfl : q = p := by omega
          exact absurd (by rw [h3]; simp) e
  · have hne : ¬ (nth (qth qs i) p).toNat = x := fun e => hd (.inr ⟨p, Nat.le_refl _, hp, by omega⟩)
    rw [hset x hx, if_neg hne]
    refine h.no x hx fun h2 => hd ?_
    rcases h2 with h2 | ⟨q, h3, h4, h5⟩
    · exact .inl h2
    · exact .inr ⟨q, by omega, h4, h5⟩
theorem OfM.next_ (h : OfM next qs i 0 cur) : OfM next qs (i + 1) (qth qs (i + 1)).length cur := by
  have e : ∀ x, DnP qs (i + 1) (qth qs (i + 1)).length x ↔ DnP qs i 0 x := by
    intro x
    constructor
    · rintro (⟨j, q, hj, h1, h2⟩ | ⟨q, h1, h2, _⟩)
      · rcases Nat.lt_or_ge j i with a | a
        · exact .inl ⟨j, q, a, h1, h2⟩
        · obtain rfl : j = i := by omega
          exact .inr ⟨q, Nat.zero_le _, h1, h2⟩
      · omega
    · rintro (⟨j, q, hj, h1, h2⟩ | ⟨q, _, h1, h2⟩)
      · exact .inl ⟨j, q, by omega, h1, h2⟩
      · exact .inl ⟨i, q, by omega, h1, h2⟩
  exact ⟨h.len, fun x hx hd => h.yes x hx ((e _).1 hd), fun x hx hd => h.no x hx fun h2 => hd ((e _).2 h2)⟩
theorem OfM.done (h : OfM next qs i p cur) (r : Rep next head tail qs) (hi : i = qs.length) : cur = next := by
  subst hi
  refine ext_nth h.len fun x hx => ?_
  rw [h.len] at hx
  by_cases hd : DnP qs qs.length p (x : Int)
  · exact h.yes x hx hd
  · rw [h.no x hx hd, r.out x hx fun j q hj hq e => hd (.inl ⟨j, q, hj, hq, e⟩)]
end

/-! ### The rows -/
theorem OwnQ.set_ {E : TypeId} {w : World} {base g o c : Nat} {zs : List Int} (h : OwnQ E w base (some ⟨g, o, none⟩) c zs) (j : Nat) {x : Int} (hx : Fit x) (hj : j < zs.length) : OwnQ E (w.setCell ⟨g, o + j, none⟩ (.int .i64 x)) base (some ⟨g, o, none⟩) c (zs.set j x) := by
  refine ⟨by simpa using h.1, fun z hz => ?_, ?_⟩
  · rcases List.mem_or_eq_of_mem_set hz with h' | h'
    · exact h.2.1 z h'
    · exact h' ▸ hx
  · rcases h.2.2 with ⟨e, _⟩ | ⟨g', o', cs, e, hb, hk, h1, h2, h3, h4⟩
    · cases e
    · injection e with e
      injection e with e1 e2
      subst e1 e2
      refine .inr ⟨g, o, _, rfl, hb, hk.set_ _ _, by simpa using h1, h2, by simpa using h3, fun q hq => ?_⟩
      have hq' : q < zs.length := by simpa using hq
      rw [nth_set _ _ _ _ hq', (hk.set_ _ _).cell, Array.getElem?_setIfInBounds]
      have h5 := h4 q hq'
      rw [hk.cell] at h5
      by_cases e : j = q
      · subst e
        rw [if_pos rfl, if_pos rfl, if_pos (by omega)]
      · rw [if_neg (by omega), if_neg e]
        exact h5
theorem OwnQ.at_ {E : TypeId} {w : World} {base g o c : Nat} {zs : List Int} (h : OwnQ E w base (some ⟨g, o, none⟩) c zs) (j : Nat) (hj : j < zs.length) : w.cell? ⟨g, o + j, none⟩ = some (.int .i64 (nth zs j)) ∧ w.frozen? ⟨g, o + j, none⟩ = false := by
  rcases h.2.2 with ⟨e, _⟩ | ⟨g', o', cs, e, hb, hk, h1, h2, h3, h4⟩
  · cases e
  · injection e with e
    injection e with e1 e2
    subst e1 e2
    exact ⟨h4 j hj, hk.frozen _⟩

/-- Chains that read as three lists, each in a row of the call's own, at whatever offset. -/
structure QC (w : World) (base : Nat) (A : Option Addr) (a : Nat) (B : Option Addr) (b : Nat) (D : Option Addr) (d : Nat) (next head tail : List Int) : Prop where
  x : OwnQ 3 w base A a next
  h : OwnQ 3 w base B b head
  t : OwnQ 3 w base D d tail
section
variable {w w' : World} {base : Nat} {A B D : Option Addr} {a b d : Nat} {next head tail : List Int}
theorem QC.chn (h : QC w base A a B b D d next head tail) : Chn w A next.length B head.length D tail.length next head tail := ⟨h.x.ints, h.h.ints, h.t.ints⟩
theorem QC.below (h : QC w base A a B b D d next head tail) (hb : Below w.heap.size w w') : QC w' base A a B b D d next head tail := ⟨h.x.below hb, h.h.below hb, h.t.below hb⟩
theorem QC.base_ {base' : Nat} (h : QC w base A a B b D d next head tail) (hb : base' ≤ base) : QC w base' A a B b D d next head tail := ⟨h.x.base_ hb, h.h.base_ hb, h.t.base_ hb⟩
theorem QC.nil_ (w : World) (base : Nat) : QC w base none 0 none 0 none 0 [] [] [] := ⟨OwnQ.nil_ _ _ _, OwnQ.nil_ _ _ _, OwnQ.nil_ _ _ _⟩
theorem ownq_far {w : World} {base : Nat} {A : Option Addr} {a : Nat} {zs : List Int} (h : OwnQ 3 w base A a zs) {p : Addr} (hp : p.block < base) (v : Value) : OwnQ 3 (w.setCell p v) base A a zs :=
  h.setOther (.inr fun e => by have := (h.block (n := 0) (d := 0) _ e).1; omega) v
theorem QC.far (h : QC w base A a B b D d next head tail) {p : Addr} (hp : p.block < base) (v : Value) : QC (w.setCell p v) base A a B b D d next head tail := ⟨ownq_far h.x hp v, ownq_far h.h hp v, ownq_far h.t hp v⟩
theorem OwnC.qc (h : OwnC w base A a B b D d next head tail) : QC w base A a B b D d next head tail := ⟨h.x.que, h.h.que, h.t.que⟩
end
/-- The block of an address. -/
def blkA (A : Option Addr) : Option Nat := (Value.slice A 0 0).ownBlock
theorem blk_any (A : Option Addr) (n c : Nat) : (Value.slice A n c).ownBlock = blkA A := by cases A <;> rfl

/-- What lies there in Of's loops. -/
structure OfS (w wr : World) (A : Option Addr) (a : Nat) (B : Option Addr) (b : Nat) (D : Option Addr) (d : Nat) (cur hd tl : List Int) : Prop where
  r4 : Bk wr w.heap.size 24 #[.slice none 0 0, .slice none 0 0, .slice none 0 0]
  box : Bk wr (w.heap.size + 1) 24 #[.slice A cur.length a, .slice B hd.length b, .slice D tl.length d]
  below : Below w.heap.size w wr
  x : OwnQ 3 wr (w.heap.size + 2) A a cur
  h : OwnQ 3 wr (w.heap.size + 2) B b hd
  t : OwnQ 3 wr (w.heap.size + 2) D d tl
  ab : ∀ k, blkA A = some k → blkA B ≠ some k
  ad : ∀ k, blkA A = some k → blkA D ≠ some k
  bd : ∀ k, blkA B = some k → blkA D ≠ some k

section
variable {w wr w' : World} {A B D : Option Addr} {a b d : Nat} {cur hd tl : List Int}
theorem OfS.call (h : OfS w wr A a B b D d cur hd tl) (hb : Below wr.heap.size wr w') : OfS w w' A a B b D d cur hd tl :=
  ⟨h.r4.below hb h.r4.lt, h.box.below hb h.box.lt, below3 h.below hb, h.x.below hb, h.h.below hb, h.t.below hb, h.ab, h.ad, h.bd⟩
theorem ofs_start (w : World) : OfS w ((w.alloc (.cells #[.slice none 0 0, .slice none 0 0, .slice none 0 0] 24)).alloc (.cells #[.slice none 0 0, .slice none 0 0, .slice none 0 0] 24)) none 0 none 0 none 0 [] [] [] := by
  have k2 := Bk.new (w.alloc (.cells #[.slice none 0 0, .slice none 0 0, .slice none 0 0] 24)) 24 #[.slice none 0 0, .slice none 0 0, .slice none 0 0]
  rw [size_alloc] at k2
  exact ⟨(Bk.new w _ _).alloc _, k2, ((Below.refl w.heap.size w).alloc (Nat.le_refl _) _).alloc (by simp) _, OwnQ.nil_ _ _ _, OwnQ.nil_ _ _ _, OwnQ.nil_ _ _ _, fun k hk => by simp [blkA, Value.ownBlock] at hk, fun k hk => by simp [blkA, Value.ownBlock] at hk, fun k hk => by simp [blkA, Value.ownBlock] at hk⟩
/-- A row of the three turns: the others stay. -/
theorem ofq_kept {X Y : World} {base : Nat} {R S : Option Addr} {s : Nat} {zs : List Int} (h : OwnQ 3 X base S s zs) (hg : X.grownBy Y (blkA R)) (hne : ∀ k, blkA R = some k → blkA S ≠ some k) : OwnQ 3 Y base S s zs := by
  refine h.grown hg ?_
  cases e : (Value.slice S 0 0).ownBlock with
  | none => exact .inl rfl
  | some k => exact .inr fun e' => hne k e'.symm (by rw [← e]; rfl)
theorem ofb_kept {X Y : World} {base g : Nat} {R : Option Addr} {r : Nat} {zs : List Int} {cs : Array Value} {T : TypeId} (h : Bk X g T cs) (hq : OwnQ 3 X base R r zs) (hg : X.grownBy Y (blkA R)) (hlt : g < base) : Bk Y g T cs :=
  h.grown hg fun e => by have := (hq.block (n := 0) (d := 0) g e.symm).1; omega
theorem ofw_kept {w X Y : World} {base : Nat} {R : Option Addr} {r : Nat} {zs : List Int} (h : Below w.heap.size w X) (hq : OwnQ 3 X base R r zs) (hg : X.grownBy Y (blkA R)) (hlt : w.heap.size ≤ base) : Below w.heap.size w Y :=
  h.grown hg h.size fun k hk => by have := (hq.block (n := 0) (d := 0) k hk).1; omega
theorem ofq_far {w X : World} {R : Option Addr} {r : Nat} {zs : List Int} (hq : OwnQ 3 X (w.heap.size + 2) R r zs) (i : Nat) (v : Value) : OwnQ 3 (X.setCell ⟨w.heap.size + 1, i, none⟩ v) (w.heap.size + 2) R r zs := by
  refine hq.setOther (.inr fun e => ?_) v
  have := (hq.block (n := 0) (d := 0) _ e).1
  simp at this
theorem ofq_far0 {w X : World} {R : Option Addr} {r : Nat} {zs : List Int} (hq : OwnQ 3 X (w.heap.size + 2) R r zs) (i : Nat) (v : Value) : OwnQ 3 (X.setCell ⟨w.heap.size, i, none⟩ v) (w.heap.size + 2) R r zs := by
  refine hq.setOther (.inr fun e => ?_) v
  have := (hq.block (n := 0) (d := 0) _ e).1
  simp at this
  omega
/-- A row that is new, or the elder one, is apart from what was apart. -/
theorem blk_fresh {X : World} {base : Nat} {A A' S : Option Addr} {s : Nat} {zs : List Int} (h : OwnQ 3 X base S s zs) (hf : ∀ k, blkA A' = some k → blkA A = some k ∨ X.heap.size ≤ k) (hne : ∀ k, blkA A = some k → blkA S ≠ some k) : ∀ k, blkA A' = some k → blkA S ≠ some k := by
  intro k hk e
  rcases hf k hk with h1 | h1
  · exact hne k h1 e
  · have := (h.block (n := 0) (d := 0) k e).2
    omega
/-- append onto the first row. -/
theorem OfS.app0 (h : OfS w wr A a B b D d cur hd tl) {v : Int} {A' : Option Addr} {a' : Nat} (hq : OwnQ 3 w' (w.heap.size + 2) A' a' (cur ++ [v])) {n0 c0 : Nat} (hg0 : wr.grownBy w' (Value.slice A n0 c0).ownBlock) (hf : ∀ k, (Value.slice A' 0 0).ownBlock = some k → (Value.slice A 0 0).ownBlock = some k ∨ wr.heap.size ≤ k) :
    Bk w' (w.heap.size + 1) 24 #[.slice A cur.length a, .slice B hd.length b, .slice D tl.length d] ∧ OfS w (w'.setCell ⟨w.heap.size + 1, 0, none⟩ (.slice A' (cur ++ [v]).length a')) A' a' B b D d (cur ++ [v]) hd tl := by
  have hg : wr.grownBy w' (blkA A) := by rw [blk_any] at hg0; exact hg0
  have k4 := ofb_kept h.r4 h.x hg (by omega)
  have k5 := ofb_kept h.box h.x hg (by omega)
  have hb := ofw_kept h.below h.x hg (by omega)
  exact ⟨k5, k4.far (by simp) _, k5.set_ 0 _, hb.setCell (p := ⟨w.heap.size + 1, 0, none⟩) (by simp) _, ofq_far hq 0 _, ofq_far (ofq_kept h.h hg h.ab) 0 _, ofq_far (ofq_kept h.t hg h.ad) 0 _, blk_fresh h.h hf h.ab, blk_fresh h.t hf h.ad, h.bd⟩
/-- .. onto the second. -/
theorem OfS.app1 (h : OfS w wr A a B b D d cur hd tl) {v : Int} {A' : Option Addr} {a' : Nat} (hq : OwnQ 3 w' (w.heap.size + 2) A' a' (hd ++ [v])) {n0 c0 : Nat} (hg0 : wr.grownBy w' (Value.slice B n0 c0).ownBlock) (hf : ∀ k, (Value.slice A' 0 0).ownBlock = some k → (Value.slice B 0 0).ownBlock = some k ∨ wr.heap.size ≤ k) :
    Bk w' (w.heap.size + 1) 24 #[.slice A cur.length a, .slice B hd.length b, .slice D tl.length d] ∧ OfS w (w'.setCell ⟨w.heap.size + 1, 1, none⟩ (.slice A' (hd ++ [v]).length a')) A a A' a' D d cur (hd ++ [v]) tl := by
  have hg : wr.grownBy w' (blkA B) := by rw [blk_any] at hg0; exact hg0
  have k4 := ofb_kept h.r4 h.h hg (by omega)
  have k5 := ofb_kept h.box h.h hg (by omega)
  have hb := ofw_kept h.below h.h hg (by omega)
  have hba : ∀ k, blkA B = some k → blkA A ≠ some k := fun k hk e => h.ab k e hk
  exact ⟨k5, k4.far (by simp) _, k5.set_ 1 _, hb.setCell (p := ⟨w.heap.size + 1, 1, none⟩) (by simp) _, ofq_far (ofq_kept h.x hg hba) 1 _, ofq_far hq 1 _, ofq_far (ofq_kept h.t hg h.bd) 1 _, fun k hk e => blk_fresh h.x hf hba k e hk, h.ad, blk_fresh h.t hf h.bd⟩
/-- .. onto the third. -/
theorem OfS.app2 (h : OfS w wr A a B b D d cur hd tl) {v : Int} {A' : Option Addr} {a' : Nat} (hq : OwnQ 3 w' (w.heap.size + 2) A' a' (tl ++ [v])) {n0 c0 : Nat} (hg0 : wr.grownBy w' (Value.slice D n0 c0).ownBlock) (hf : ∀ k, (Value.slice A' 0 0).ownBlock = some k → (Value.slice D 0 0).ownBlock = some k ∨ wr.heap.size ≤ k) :
    Bk w' (w.heap.size + 1) 24 #[.slice A cur.length a, .slice B hd.length b, .slice D tl.length d] ∧ OfS w (w'.setCell ⟨w.heap.size + 1, 2, none⟩ (.slice A' (tl ++ [v]).length a')) A a B b A' a' cur hd (tl ++ [v]) := by
  have hg : wr.grownBy w' (blkA D) := by rw [blk_any] at hg0; exact hg0
  have k4 := ofb_kept h.r4 h.t hg (by omega)
  have k5 := ofb_kept h.box h.t hg (by omega)
  have hb := ofw_kept h.below h.t hg (by omega)
  have hda : ∀ k, blkA D = some k → blkA A ≠ some k := fun k hk e => h.ad k e hk
  have hdb : ∀ k, blkA D = some k → blkA B ≠ some k := fun k hk e => h.bd k e hk
  exact ⟨k5, k4.far (by simp) _, k5.set_ 2 _, hb.setCell (p := ⟨w.heap.size + 1, 2, none⟩) (by simp) _, ofq_far (ofq_kept h.x hg hda) 2 _, ofq_far (ofq_kept h.h hg hdb) 2 _, ofq_far hq 2 _, h.ab, fun k hk e => blk_fresh h.x hf hda k e hk, fun k hk e => blk_fresh h.h hf hdb k e hk⟩
/-- A link is written. -/
theorem OfS.link {g o : Nat} (h : OfS w wr (some ⟨g, o, none⟩) a B b D d cur hd tl) (j : Nat) {x : Int} (hx : Fit x) (hj : j < cur.length) : OfS w (wr.setCell ⟨g, o + j, none⟩ (.int .i64 x)) (some ⟨g, o, none⟩) a B b D d (cur.set j x) hd tl := by
  have hgb := (h.x.block (n := 0) (d := 0) g rfl).1
  have e1 : blkA (some ⟨g, o, none⟩) = some g := rfl
  have hb : ∀ {S : Option Addr} {s : Nat} {zs : List Int}, OwnQ 3 wr (w.heap.size + 2) S s zs → blkA S ≠ some g → OwnQ 3 (wr.setCell ⟨g, o + j, none⟩ (.int .i64 x)) (w.heap.size + 2) S s zs := fun hS hne => hS.setOther (p := ⟨g, o + j, none⟩) (.inr hne) _
  have hbox := h.box.far (p := ⟨g, o + j, none⟩) (by simp; omega) (.int .i64 x)
  exact ⟨h.r4.far (by simp; omega) _, by rw [List.length_set]; exact hbox, h.below.setCell (p := ⟨g, o + j, none⟩) (by simp; omega) _, h.x.set_ j hx hj, hb h.h (h.ab g e1), hb h.t (h.ad g e1), h.ab, h.ad, h.bd⟩
end

end Go.Proofs.Ytiheeehegjfmgaa

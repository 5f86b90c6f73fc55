/-
  What lies there in the loop of the law ChainQueues: chains in a variable, queues as a slice of slices, each row in a block apart; an own slice of what is done.
-/
import Derived.Test.YtiheeehegjfmgaaHo
namespace Go.Proofs.Ytiheeehegjfmgaa
open Go.RowKit

/-- The rows of chains lie in no queue's block. -/
def OffQ (A : Option Addr) (n : Nat) (B : Option Addr) (m : Nat) (D : Option Addr) (k : Nat) (hs : List (Option Addr × Nat)) : Prop := ∀ j g, j < hs.length → qblk (qa hs j) = some g → OffC A n B m D k g
/-- Chains whose rows lie apart from a variable's block, from the queues' header, and from all queues. -/
structure ChA (w : World) (g gH : Nat) (hs : List (Option Addr × Nat)) (A : Option Addr) (n : Nat) (B : Option Addr) (m : Nat) (D : Option Addr) (k : Nat) (N H T : List Int) : Prop where
  chn : Chn w A n B m D k N H T
  offg : OffC A n B m D k g
  offH : OffC A n B m D k gH
  offq : OffQ A n B m D k hs

theorem Ints.grown {w w' : World} {A : Option Addr} {n : Nat} {zs : List Int} (h : Ints w A n zs) {row : Option Nat} (hg : w.grownBy w' row) (ho : ∀ k, row = some k → Off A n k) : Ints w' A n zs := by
  refine ⟨h.1, h.2.1, h.2.2.1, fun hn => ?_⟩
  obtain ⟨b, o, rfl, hb, hc⟩ := h.2.2.2 hn
  exact ⟨b, o, rfl, Nat.lt_of_lt_of_le hb hg.size, fun i hi => (hg.cell_far ⟨b, o + i, none⟩ hb (fun e => ho b e.symm hn b o none rfl rfl)).trans (hc i hi)⟩
theorem size_set3 (W : World) (p q r : Addr) (u v x : Value) : (((W.setCell p u).setCell q v).setCell r x).heap.size = W.heap.size := by simp
theorem bk_far3 {W : World} {g gn : Nat} {t : TypeId} {cs : Array Value} (h : Bk W g t cs) (hne : g ≠ gn) (v0 v1 v2 : Value) : Bk (((W.setCell ⟨gn, 0, none⟩ v0).setCell ⟨gn, 1, none⟩ v1).setCell ⟨gn, 2, none⟩ v2) g t cs :=
  ((h.far (p := ⟨gn, 0, none⟩) hne v0).far (p := ⟨gn, 1, none⟩) hne v1).far (p := ⟨gn, 2, none⟩) hne v2

section
variable {V W W6 w w' : World} {g gH C n m k a b d n2 m2 k2 a2 b2 d2 : Nat} {hs : List (Option Addr × Nat)} {qs : List (List Int)} {A B D A2 B2 D2 : Option Addr} {N H T N2 H2 T2 : List Int}
theorem Chn.grown (h : Chn w A n B m D k N H T) {row : Option Nat} (hg : w.grownBy w' row) (ho : ∀ g, row = some g → OffC A n B m D k g) : Chn w' A n B m D k N H T :=
  ⟨h.x.grown hg fun g e => (ho g e).1, h.h.grown hg fun g e => (ho g e).2.1, h.t.grown hg fun g e => (ho g e).2.2⟩
theorem ChA.below (h : ChA w g gH hs A n B m D k N H T) (hb : Below w.heap.size w w') : ChA w' g gH hs A n B m D k N H T := ⟨h.chn.below hb, h.offg, h.offH, h.offq⟩
theorem ChA.store3 (h : ChA w g gH hs A n B m D k N H T) {gn : Nat} (ho : OffC A n B m D k gn) (v0 v1 v2 : Value) : ChA (((w.setCell ⟨gn, 0, none⟩ v0).setCell ⟨gn, 1, none⟩ v1).setCell ⟨gn, 2, none⟩ v2) g gH hs A n B m D k N H T :=
  ⟨h.chn.store ho v0 v1 v2, h.offg, h.offH, h.offq⟩
/-- New rows lie apart from all that was there. -/
theorem ChA.fresh {base : Nat} (ho : OwnK w base A a B b D d N H T) (hg : g < base) (hH : gH < base) (hq : ∀ j k, j < hs.length → qblk (qa hs j) = some k → k < base) : ChA w g gH hs A N.length B H.length D T.length N H T :=
  ⟨ho.c.chn, ho.off hg, ho.off hH, fun j k hj e => ho.off (hq j k hj e)⟩
theorem ChA.put (h : ChA W g gH hs A n B m D k N H T) {i : Nat} (hi : i < hs.length) {row : Option Nat} (hgr : W.grownBy W6 row) (hrow : row = qblk (qa hs i)) {A' : Option Addr} {c' : Nat} (hf : ∀ k, (Value.slice A' 0 0).ownBlock = some k → qblk (qa hs i) = some k ∨ W.heap.size ≤ k) (v : Value) :
    ChA W6 g gH hs A n B m D k N H T ∧ ChA (W6.setCell ⟨gH, i, none⟩ v) g gH (hs.set i (A', c')) A n B m D k N H T := by
  have h6 : Chn W6 A n B m D k N H T := h.chn.grown hgr fun g e => h.offq i g hi (by rw [← hrow]; exact e)
  refine ⟨⟨h6, h.offg, h.offH, h.offq⟩, h6.far h.offH i v, h.offg, h.offH, fun j g' hj e => ?_⟩
  have hj' : j < hs.length := by simpa using hj
  rw [qa_set _ _ _ _ hj'] at e
  by_cases hij : i = j
  · rw [if_pos hij] at e
    rcases hf g' e with h1 | h1
    · exact h.offq i g' hi h1
    · exact h.chn.off h1
  · rw [if_neg hij] at e
    exact h.offq j g' hj' e

structure QuS (V wr : World) (g gH C : Nat) (hs : List (Option Addr × Nat)) (qs : List (List Int)) (A : Option Addr) (n a : Nat) (B : Option Addr) (m b : Nat) (D : Option Addr) (k d : Nat) (N H T : List Int) : Prop where
  box : Bk wr g 24 #[.slice A n a, .slice B m b, .slice D k d]
  ch : ChA wr g gH hs A n B m D k N H T
  own : OwnQs 3 22 wr V.heap.size (some ⟨gH, 0, none⟩) C hs qs
  below : Below V.heap.size V wr
  hg : V.heap.size ≤ g
theorem OwnQs.hlt {E R : TypeId} {base : Nat} (h : OwnQs E R w base (some ⟨gH, 0, none⟩) C hs qs) : base ≤ gH ∧ gH < w.heap.size := h.hblock (n := 0) (d := 0) gH rfl
theorem OwnQs.qlt {E R : TypeId} {base : Nat} {H : Option Addr} (h : OwnQs E R w base H C hs qs) {j k : Nat} (hj : j < hs.length) (e : qblk (qa hs j) = some k) : k < w.heap.size := ((h.own j (by rw [← h.len]; exact hj)).block (n := 0) (d := 0) k e).2
theorem QuS.call (h : QuS V w g gH C hs qs A n a B m b D k d N H T) (hb : Below w.heap.size w w') : QuS V w' g gH C hs qs A n a B m b D k d N H T :=
  ⟨h.box.below hb h.box.lt, h.ch.below hb, h.own.below hb, below3 h.below hb, h.hg⟩
/-- A queue turns (in place, or into a new block), and is stored into the header. -/
theorem QuS.put (S : QuS V W g gH C hs qs A n a B m b D k d N H T) {i : Nat} (hi : i < qs.length) {row : Option Nat} (hgr : W.grownBy W6 row) (hrow : row = qblk (qa hs i)) {A' : Option Addr} {c' ln : Nat} {l : List Int} (hln : l.length = ln)
    (hq : OwnQ 3 W6 V.heap.size A' c' l) (hf : ∀ k, (Value.slice A' 0 0).ownBlock = some k → qblk (qa hs i) = some k ∨ W.heap.size ≤ k) :
    (∃ v, W6.cell? ⟨gH, i, none⟩ = some v) ∧ W6.frozen? ⟨gH, i, none⟩ = false ∧ QuS V (W6.setCell ⟨gH, i, none⟩ (.slice A' ln c')) g gH C (hs.set i (A', c')) (qs.set i l) A n a B m b D k d N H T ∧
      (∀ {kk : Nat} {U : TypeId} {cs : Array Value}, Bk W kk U cs → U ≠ 3 → U ≠ 22 → Bk W6 kk U cs ∧ Bk (W6.setCell ⟨gH, i, none⟩ (.slice A' ln c')) kk U cs) ∧
      (∀ {n2 m2 k2 : Nat} {A2 B2 D2 : Option Addr} {N2 H2 T2 : List Int}, ChA W g gH hs A2 n2 B2 m2 D2 k2 N2 H2 T2 → ChA (W6.setCell ⟨gH, i, none⟩ (.slice A' ln c')) g gH (hs.set i (A', c')) A2 n2 B2 m2 D2 k2 N2 H2 T2) := by
  subst hln
  have hi' : i < hs.length := by rw [S.own.len]; exact hi
  obtain ⟨ch, hkh⟩ := S.own.type (n := 0) (d := 0) (k := gH) rfl
  have hty : ∀ {kk : Nat} {U : TypeId} {cs : Array Value}, Bk W kk U cs → U ≠ 3 → (some kk : Option Nat) ≠ row := by
    intro kk U cs hk hU e
    obtain ⟨cs', hk'⟩ := (S.own.own i hi).type (n := 0) (d := 0) (k := kk) (by rw [hrow] at e; exact e.symm)
    exact hU (bk_types hk hk')
  have hk6 := hkh.grown hgr (hty hkh (by decide))
  obtain ⟨c1, _⟩ := S.own.at_ hi
  rw [hkh.cell] at c1
  have hkeep : ∀ {kk : Nat} {U : TypeId} {cs : Array Value}, Bk W kk U cs → U ≠ 3 → U ≠ 22 → Bk W6 kk U cs ∧ Bk (W6.setCell ⟨gH, i, none⟩ (.slice A' l.length c')) kk U cs := by
    intro kk U cs hk h1 h2
    have h6 := hk.grown hgr (hty hk h1)
    refine ⟨h6, h6.far (p := ⟨gH, i, none⟩) (fun e => ?_) _⟩
    simp only [] at e
    subst e
    exact h2 (bk_types h6 hk6)
  have hput := S.own.put (by decide) hi (hrow ▸ hgr) hq hf
  refine ⟨⟨_, by rw [hk6.cell]; exact c1⟩, hk6.frozen i, ⟨(hkeep S.box (by decide) (by decide)).2, (S.ch.put hi' hgr hrow hf _).2, hput, ?_, S.hg⟩, hkeep, fun h => (h.put hi' hgr hrow hf _).2⟩
  refine (S.below.grown hgr S.below.size fun k hk => ?_).setCell (p := ⟨gH, i, none⟩) S.own.hlt.1 _
  rw [hrow] at hk
  exact ((S.own.own i hi).block (n := 0) (d := 0) k hk).1
/-- The variable takes new chains. -/
theorem QuS.take (S : QuS V W g gH C hs qs A n a B m b D k d N H T) (h2 : ChA W g gH hs A2 n2 B2 m2 D2 k2 N2 H2 T2) :
    QuS V (((W.setCell ⟨g, 0, none⟩ (.slice A2 n2 a2)).setCell ⟨g, 1, none⟩ (.slice B2 m2 b2)).setCell ⟨g, 2, none⟩ (.slice D2 k2 d2)) g gH C hs qs A2 n2 a2 B2 m2 b2 D2 k2 d2 N2 H2 T2 := by
  have o1 := S.own.grownT (grown_set (i := 0) (.slice A2 n2 a2)) S.box (by decide) (by decide)
  have b1 := S.box.set_ 0 (.slice A2 n2 a2)
  have o2 := o1.grownT (grown_set (i := 1) (.slice B2 m2 b2)) b1 (by decide) (by decide)
  have b2' := b1.set_ 1 (.slice B2 m2 b2)
  have o3 := o2.grownT (grown_set (i := 2) (.slice D2 k2 d2)) b2' (by decide) (by decide)
  exact ⟨bk_store S.box _ _ _, h2.store3 h2.offg _ _ _, o3, below_store S.below S.hg _ _ _, S.hg⟩
end

/-! ### What is done -/
/-- A kind, two lists, and a node. -/
abbrev OpT := Int × Int × Int × Int
def oth (l : List OpT) (j : Nat) : OpT := l.getD j (0, 0, 0, 0)
/-- The slice whose cells begin at A, of n of them, reads as the list l. -/
def Opq (w : World) (A : Option Addr) (n : Nat) (l : List OpT) : Prop :=
  n * 32 ≤ 140737488351232 ∧
    (0 < n → ∃ b o, A = some ⟨b, o, none⟩ ∧ b < w.heap.size ∧ ∀ j, j < n → Fit (oth l j).1 ∧ Fit (oth l j).2.1 ∧ Fit (oth l j).2.2.1 ∧ Fit (oth l j).2.2.2 ∧
      w.cell? ⟨b, o + j * 4, none⟩ = some (.int .i64 (oth l j).1) ∧ w.cell? ⟨b, o + j * 4 + 1, none⟩ = some (.int .i64 (oth l j).2.1) ∧
      w.cell? ⟨b, o + j * 4 + 2, none⟩ = some (.int .i64 (oth l j).2.2.1) ∧ w.cell? ⟨b, o + j * 4 + 3, none⟩ = some (.int .i64 (oth l j).2.2.2))
theorem Opq.below {w w' : World} {A : Option Addr} {n : Nat} {l : List OpT} (h : Opq w A n l) (hb : Below w.heap.size w w') : Opq w' A n l :=
  ⟨h.1, fun hn => by
    obtain ⟨b, o, e, hlt, hc⟩ := h.2 hn
    refine ⟨b, o, e, Nat.lt_of_lt_of_le hlt hb.size, fun j hj => ?_⟩
    obtain ⟨f0, f1, f2, f3, h0, h1, h2, h3⟩ := hc j hj
    exact ⟨f0, f1, f2, f3, (hb.cell (p := ⟨b, o + j * 4, none⟩) hlt).trans h0, (hb.cell (p := ⟨b, o + j * 4 + 1, none⟩) hlt).trans h1, (hb.cell (p := ⟨b, o + j * 4 + 2, none⟩) hlt).trans h2, (hb.cell (p := ⟨b, o + j * 4 + 3, none⟩) hlt).trans h3⟩⟩

/-- '(x%m + m) % m' is a number from 0 on, below m. -/
theorem mod_mod (x : Int) {m : Nat} (hm : 0 < m) : ∃ r : Int, x.tmod (m : Int) = r ∧ -(m : Int) < r ∧ r < (m : Int) ∧ ∃ i : Nat, i < m ∧ (r + (m : Int)).tmod (m : Int) = (i : Int) := by
  have h1 : x.tmod (m : Int) < (m : Int) := Int.tmod_lt_of_pos _ (by omega)
  have h2 : -(m : Int) < x.tmod (m : Int) := by
    have h3 : (-x).tmod (m : Int) < (m : Int) := Int.tmod_lt_of_pos _ (by omega)
    rw [Int.neg_tmod] at h3
    omega
  refine ⟨_, rfl, h2, h1, ((x.tmod (m : Int) + (m : Int)).tmod (m : Int)).toNat, ?_, ?_⟩
  · have h4 : (x.tmod (m : Int) + (m : Int)).tmod (m : Int) < (m : Int) := Int.tmod_lt_of_pos _ (by omega)
    omega
  · have h5 : 0 ≤ (x.tmod (m : Int) + (m : Int)).tmod (m : Int) := Int.tmod_nonneg _ (by omega)
    omega

end Go.Proofs.Ytiheeehegjfmgaa

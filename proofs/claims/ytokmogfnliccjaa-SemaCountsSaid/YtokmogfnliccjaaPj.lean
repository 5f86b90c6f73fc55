/-
  Layer 10, the program: leave, join, next.
-/
import Derived.Test.YtokmogfnliccjaaPl
import Derived.StillTailTactics
namespace Go.Proofs.Ytokmogfnliccjaa
open Go.RowKit

theorem OwnI.grown {E : TypeId} {w w' : World} {base : Nat} {A : Option Addr} {c : Nat} {zs : List Int} (h : OwnI E w base A c zs) {row : Option Nat} (hg : w.grownBy w' row) (hne : (Value.slice A zs.length c).ownBlock = none ∨ (Value.slice A zs.length c).ownBlock ≠ row) : OwnI E w' base A c zs :=
  ⟨h.1, h.2.1, h.2.2.kept hg hne⟩

set_option maxHeartbeats 2000000 in
theorem pleave_any {w : World} {base g : Nat} {z : Int} {A : Option Addr} {n c b m : Nat} {l : List Int} (h : GS w base g z A n c b m l) (id : Int) (fid : Fit id) (hm : id ∈ l) :
    Calls Try.prog 33 #[.pointer (some ⟨g, 1, none⟩), .int .i64 id] w
      (fun e w' => e = .returned (.tuple #[]) ∧ GS w' base g z A (wo l id).length c b m (wo l id) ∧ Below base w w') := by
  obtain ⟨qn, hqn⟩ : ∃ qn, (wo l id).length = qn := ⟨_, rfl⟩
  rw [hqn]
  have HQN := Lib.hid hqn
  clear hqn
  have hpos : 0 < l.length := List.length_pos_of_mem hm
  obtain ⟨ga, rfl, hga, hga2, -, -⟩ := h.o.form hpos
  have bV := (Below.refl w.heap.size w).alloc (Nat.le_refl _) (.cells #[.int .i64 id] 2)
  have kV := Bk.new w 2 #[.int .i64 id]
  have HBW : Hid (base ≤ w.heap.size) := Lib.hid (Nat.le_of_lt (Nat.lt_of_le_of_lt h.hb h.lt))
  have H0 := Lib.hid h
  have H := Lib.hid (h.below bV)
  have HGB := Lib.hid (show ga ≠ w.heap.size by omega)
  have HGA := Lib.hid (show g < ga by omega)
  have HGG := Lib.hid h.lt
  obtain ⟨gb, hgb⟩ : ∃ gb, w.heap.size = gb := ⟨_, rfl⟩
  obtain ⟨V, hV⟩ : ∃ V, w.alloc (.cells #[.int .i64 id] 2) = V := ⟨_, rfl⟩
  rw [hV] at bV kV H
  rw [hgb] at kV HGB HGG
  have HV := Lib.hid hV
  have HG := Lib.hid hgb
  have BV := Lib.hid bV
  have KV := Lib.hid kV
  have FID := Lib.hid fid
  have HM := Lib.hid hm
  have q1 := H.out.c1
  have lq := H.out.lt
  clear h bV kV hV hgb fid hm hpos hga hga2
  go_enter Try.func33, Try.ntmps33
  go_upto_region 1 with fail
  rw [HV.out]
  try rw [HG.out]
  clear HV HG
  go_wp2_with fail
  refine (pdel_any ga n c gb (g + 1) l id _ H.out.o H.out.n KV.out HGB.out HM.out).mono ?_
  rw [HQN.out]
  rintro e w1 ⟨rfl, o1, g1⟩
  have hb1 : b ≠ ga := by
    rintro rfl
    exact H.out.s.neown H.out.o (k := 0) (d := 0) rfl
  have k1 := H.out.k.grown g1 (by intro e; injection e with e; exact (Nat.ne_of_lt HGA.out) e)
  have s1 := H.out.s.grown g1 (by intro e; injection e with e; exact hb1 e)
  have kb1 := KV.out.grown g1 (by intro e; injection e with e; exact HGB.out e.symm)
  have bb1 : Below base w w1 := (BV.out.mono HBW.out).grown g1 (Nat.le_trans HBW.out BV.out.size) (by intro k hk; injection hk with hk; have := H.out.hb; have := HGA.out; omega)
  have c1 : _ = some (Value.slice (some ⟨ga, 0, none⟩) n c) := k1.cell 1
  have f1 := k1.frozen 1
  have l1 := k1.lt
  have k2 := k1.set_ 1 (.slice (some ⟨ga, 0, none⟩) qn c)
  have o2 := o1.apart (p := ⟨g, 1, none⟩) (Nat.ne_of_gt HGA.out) (.slice (some ⟨ga, 0, none⟩) qn c)
  have hgr := grown_set (w := w1) (g := g) (i := 1) (.slice (some ⟨ga, 0, none⟩) qn c)
  have s2 := s1.grown hgr (by have := H.out.gb; intro e; injection e with e; omega)
  have kb2 := kb1.grown hgr (by have := HGG.out; intro e; injection e with e; omega)
  have bb2 := bb1.grown hgr (Nat.le_trans HBW.out bb1.size) (by intro k hk; injection hk with hk; have := H.out.hb; omega)
  obtain ⟨W2, hW2⟩ : ∃ W2, w1.setCell ⟨g, 1, none⟩ (.slice (some ⟨ga, 0, none⟩) qn c) = W2 := ⟨_, rfl⟩
  rw [hW2] at k2 o2 s2 kb2 bb2
  have HW2 := Lib.hid hW2
  have K2 := Lib.hid k2
  have O2 := Lib.hid o2
  have S2 := Lib.hid s2
  have KB2 := Lib.hid kb2
  have BB2 := Lib.hid bb2
  have HB1 := Lib.hid hb1
  clear hW2 k2 o2 s2 kb2 bb2 hgr k1 s1 kb1 bb1 o1 g1 hb1 q1 lq
  go_upto_region 2 with fail
  rw [HW2.out]
  clear HW2 c1 f1 l1
  obtain ⟨W3, hrun, s3, g3⟩ := (S2.out.below (Below.refl _ _).drew).del FID.out 0
  have q2 : W2.cell? ⟨g, 2, none⟩ = some (.map (some b)) := (K2.out.cell 2).trans rfl
  have qb := KB2.out.one
  have lq := K2.out.lt
  go_still_tail 5, (by kernel_rfl)
  change wpList _ _ _ _ _ W2.drew
  have HF : Hid (GS W3 base g z (some ⟨ga, 0, none⟩) qn c b m (wo l id)) := Lib.hid ⟨(K2.out.drew.grown g3 (by have := H.out.gb; intro e; injection e with e; omega) : _), (O2.out.below (Below.refl _ _).drew).grown g3 (.inr (by simp [Value.ownBlock]; exact fun e => HB1.out e.symm)), HQN.out, s3.same (has_del l id), H.out.gb, H.out.hb⟩
  have HB3 := Lib.hid (BB2.out.drew.grown g3 (Nat.le_trans HBW.out BB2.out.size) (by intro k hk; injection hk with hk; have := H.out.gb; have := H.out.hb; omega))
  clear s3 g3
  go_wp2
  exact bodyPost_end (v := .tuple #[]) (results_none rfl _ _ _) rfl ⟨rfl, HF.out, HB3.out⟩

/-- Behind an append: a row longer by what came. -/
theorem GS.app {w w1 w2 : World} {base g : Nat} {z : Int} {A : Option Addr} {n c b m : Nat} {l : List Int} (h : GS w base g z A n c b m l) (b1 : Below w.heap.size w w1) (hg : w1.grownBy w2 (Value.slice A l.length c).ownBlock) :
    Bk w2 g 57 #[.int .i64 z, .slice A n c, .map (some b)] ∧ FSet w2 b m (hasB l) ∧ Below base w w2 := by
  have h1 := h.below b1
  have hbw : base ≤ w.heap.size := Nat.le_of_lt (Nat.lt_of_le_of_lt h.hb h.lt)
  refine ⟨h1.k.grown hg ?_, h1.s.grown hg ?_, (b1.mono hbw).grown hg (Nat.le_trans hbw b1.size) ?_⟩
  · intro e
    have := h1.o.block g e.symm
    omega
  · intro e
    exact h1.s.neown h1.o e.symm
  · intro k hk
    have := h1.o.block k hk
    have := h.hb
    omega

set_option maxHeartbeats 2000000 in
theorem pjoin_any {w : World} {base g : Nat} {z : Int} {A : Option Addr} {n c b m : Nat} {l : List Int} (h : GS w base g z A n c b m l) (id : Int) (fid : Fit id) (hn : n ≤ 900) (hm : m < 1000) :
    Calls Try.prog 29 #[.pointer (some ⟨g, 1, none⟩), .int .i64 id] w
      (fun e w' => e = .returned (.tuple #[]) ∧ (∃ A' c', GS w' base g z A' (n + 1) c' b (m + 1) (l ++ [id])) ∧ Below base w w') := by
  have H := Lib.hid h
  have FID := Lib.hid fid
  have HM := Lib.hid hm
  have q1 := h.c1
  have lq := h.lt
  have ba := (Below.refl w.heap.size w).alloc (Nat.le_refl _) (.cells #[.int .i64 id] 2)
  have BA := Lib.hid ba
  have OA := Lib.hid (h.o.below ba)
  have TA := Lib.hid (ints1 w 2 fid)
  have HN := Lib.hid h.n
  have HBW : Hid (base ≤ w.heap.size) := Lib.hid (Nat.le_of_lt (Nat.lt_of_le_of_lt h.hb h.lt))
  clear h ba fid hm
  go_enter Try.func29, Try.ntmps29
  go_wp2_with (at_builtin; go_loud (refine wpList_append_ints _ rfl _ _ 22 rfl 2 Try.underlying22 infoI8 (g + 1) A c l n HN.out.symm rfl OA.out (some ⟨w.heap.size, 0, none⟩) 1 1 [id] rfl TA.out (by rw [HN.out]; omega) (by simp; omega) ?_; intro A2 c2 w2 ho hgr; rw [← HN.out] at hgr; obtain ⟨k2, s2, b2⟩ := GS.app H.out BA.out hgr; have O2 := Lib.hid ho; have K2 := Lib.hid k2; have S2 := Lib.hid s2; have B2 := Lib.hid b2; clear ho hgr k2 s2 b2 q1 lq TA OA BA; have c1 : _ = some (Value.slice A n c) := K2.out.cell 1; have f1 := K2.out.frozen 1; have l1 := K2.out.lt; have K3 := Lib.hid (K2.out.set_ 1 (.slice A2 (l.length + 1) c2)); have hgs := grown_set (w := w2) (g := g) (i := 1) (.slice A2 (l.length + 1) c2); have S3 := Lib.hid (S2.out.grown hgs (by have := H.out.gb; intro e; injection e with e; omega)); have B3 := Lib.hid (B2.out.setCell (p := ⟨g, 1, none⟩) H.out.hb (.slice A2 (l.length + 1) c2)); have O3 := Lib.hid (show OwnI 2 (w2.setCell ⟨g, 1, none⟩ (.slice A2 (l.length + 1) c2)) (g + 1) A2 c2 (l ++ [id]) from ⟨O2.out.1, O2.out.2.1, ownsRow_setCell_other O2.out.2.2 (by intro e; have := O2.out.block g e; omega) _⟩); clear hgs; have hgx := S3.out.put FID.out HM.out; obtain ⟨w4, hrun, s4, g4⟩ := hgx; have q2 : w2.cell? ⟨g, 2, none⟩ = some (.map (some b)) := (K2.out.cell 2).trans rfl; have HF := Lib.hid (show GS w4 base g z A2 (l.length + 1) c2 b (m + 1) (l ++ [id]) from ⟨K3.out.grown g4 (by have := H.out.gb; intro e; injection e with e; omega), O3.out.grown g4 (.inr (fun e => S3.out.neown O3.out e)), by rw [List.length_append]; rfl, s4.same (has_put l id), H.out.gb, H.out.hb⟩); have HB4 := Lib.hid (B3.out.grown g4 (Nat.le_trans HBW.out B3.out.size) (by intro k hk; injection hk with hk; have := H.out.gb; have := H.out.hb; omega)); clear s4 g4))
  exact bodyPost_end (v := .tuple #[]) (results_none rfl _ _ _) rfl ⟨rfl, ⟨A2, c2, by have := HF.out; rwa [HN.out] at this⟩, HB4.out⟩

theorem wo_head {l : List Int} {x : Int} (h : 0 < l.length) (hx : nth l 0 = x) : x ∈ l := mem_nth.2 ⟨0, h, hx⟩

set_option maxHeartbeats 1000000 in
theorem pnext_any {w : World} {base g : Nat} {z : Int} {A : Option Addr} {n c b m : Nat} {l : List Int} (h : GS w base g z A n c b m l) (x : Int) (h0 : 0 < n) (hx : nth l 0 = x) :
    Calls Try.prog 31 #[.pointer (some ⟨g, 1, none⟩)] w
      (fun e w' => e = .returned (.int .i64 x) ∧ GS w' base g z A (wo l x).length c b m (wo l x) ∧ Below base w w') := by
  have hl0 : 0 < l.length := by rw [h.n]; exact h0
  obtain ⟨ga, rfl, -, hga2, -, -⟩ := h.o.form hl0
  have q1 := h.c1
  have lq := h.lt
  obtain ⟨c0, -⟩ := h.o.at_ hl0
  have fx : Fit x := by have := (h.o.intsN h.n).fit h0; rwa [hx] at this
  rw [hx] at c0
  have HL := Lib.hid (pleave_any h x fx (wo_head hl0 hx))
  clear h fx hx hl0
  go_enter Try.func31, Try.ntmps31
  go_wp2_with fail
  refine HL.out.mono ?_
  rintro e w1 ⟨rfl, gs, b1⟩
  have HG := Lib.hid gs
  have HB := Lib.hid b1
  clear gs b1 q1 lq c0 hga2 HL
  go_wp2_with fail
  go_ret
  exact ⟨rfl, HG.out, HB.out⟩

end Go.Proofs.Ytokmogfnliccjaa

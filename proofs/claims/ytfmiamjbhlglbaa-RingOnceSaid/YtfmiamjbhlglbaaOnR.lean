/-
  RingOnce (layer 7): what the race is made of (two rows, a map, a struct), in whatever order.
-/
import Derived.Test.YtfmiamjbhlglbaaOnS
import Derived.Test.YtfmiamjbhlglbaaVals
namespace Go.Proofs.Ytfmiamjbhlglbaa
open Go.RowKit Go.Maps

def five (a : Act) (v2 v7 v8 v9 v10 : Value) : Act := ((((a.put (some 44) v2).put (some 49) v7).put (some 50) v8).put (some 51) v9).put (some 8) v10
theorem put_comm (a : Act) {i j : Nat} (h : i ≠ j) (u v : Value) : (a.put (some i) u).put (some j) v = (a.put (some j) v).put (some i) u := by
  simp only [Act.put]
  congr 1
  exact Array.setIfInBounds_comm _ _ h
theorem put_put (a : Act) (i : Nat) (u v : Value) : (a.put (some i) u).put (some i) v = a.put (some i) v := by
  simp only [Act.put]
  congr 1
  simp
theorem five_2 (a : Act) (v2 v7 v8 v9 v10 v : Value) : (five a v2 v7 v8 v9 v10).put (some 44) v = five a v v7 v8 v9 v10 := by
  unfold five
  rw [put_comm _ (by decide), put_comm _ (by decide : 51 ≠ 44), put_comm _ (by decide : 50 ≠ 44), put_comm _ (by decide : 49 ≠ 44), put_put]
theorem five_7 (a : Act) (v2 v7 v8 v9 v10 v : Value) : (five a v2 v7 v8 v9 v10).put (some 49) v = five a v2 v v8 v9 v10 := by
  unfold five
  rw [put_comm _ (by decide), put_comm _ (by decide : 51 ≠ 49), put_comm _ (by decide : 50 ≠ 49), put_put]
theorem five_8 (a : Act) (v2 v7 v8 v9 v10 v : Value) : (five a v2 v7 v8 v9 v10).put (some 50) v = five a v2 v7 v v9 v10 := by
  unfold five
  rw [put_comm _ (by decide), put_comm _ (by decide : 51 ≠ 50), put_put]
theorem five_9 (a : Act) (v2 v7 v8 v9 v10 v : Value) : (five a v2 v7 v8 v9 v10).put (some 51) v = five a v2 v7 v8 v v10 := by
  unfold five
  rw [put_comm _ (by decide), put_put]
theorem five_10 (a : Act) (v2 v7 v8 v9 v10 v : Value) : (five a v2 v7 v8 v9 v10).put (some 8) v = five a v2 v7 v8 v9 v := by
  unfold five
  rw [put_put]

/-- What is carried: what is listed lies there. -/
def MadeI (rm th base : Nat) (ab : Act) (w0 : World) (L : Array Bool) (a : Act) (w : World) : Prop :=
  ∃ v2 v7 v8 v9 v10, a = five ab v2 v7 v8 v9 v10 ∧ Below base w0 w ∧ base ≤ w0.heap.size ∧ ∃ gM gH b g : Nat,
    (L.getD 2 true = true → v2 = .slice (some ⟨gM, 0, none⟩) (rm + 2) (rm + 2) ∧ OwnI 2 w base (some ⟨gM, 0, none⟩) (rm + 2) (List.replicate (rm + 2) 0)) ∧
    (L.getD 7 true = true → v7 = .slice (some ⟨gH, 0, none⟩) (th + 1) (th + 1) ∧ OwnH w base (some ⟨gH, 0, none⟩) (List.replicate (th + 1) noH)) ∧
    (L.getD 8 true = true → v8 = .map (some b) ∧ CMap w b 0 (fun _ => 0) ∧ base ≤ b) ∧
    (L.getD 9 true = true → L.getD 2 true = true ∧ L.getD 7 true = true ∧ L.getD 8 true = true ∧ v9 = .agg (raceC (.slice (some ⟨gM, 0, none⟩) (rm + 2) (rm + 2)) rm (.slice (some ⟨gH, 0, none⟩) (th + 1) (th + 1)) b 0 1000)) ∧
    (L.getD 10 true = true → v10 = .pointer (some ⟨g, 0, none⟩) ∧ Bk w g 49 zrR ∧ base ≤ g)

section
variable {rm th base : Nat} {ab : Act} {w0 w : World} {L : Array Bool} {a : Act}
theorem below_al (h : Below base w0 w) (hb : base ≤ w0.heap.size) (o : Obj) : Below base w0 (w.alloc o) := h.alloc (Nat.le_trans hb h.size) o
theorem MadeI.m (h : MadeI rm th base ab w0 L a w) (hs : 11 < L.size) (hun : L.getD 2 true = false) (hr : rm ≤ 6) (z : Array Value) (hz : madeCells #[Value.int .i64 0] (rm + 2) = z) :
    MadeI rm th base ab w0 (L.setIfInBounds 2 true) (a.put (some 44) (.slice (some ⟨w.heap.size, 0, none⟩) (rm + 2) (rm + 2))) (w.alloc (.cells z 2)) := by
  obtain ⟨v2, v7, v8, v9, v10, rfl, B, hb, gM, gH, b, g, f2, f7, f8, f9, f10⟩ := h
  have bw := (Below.refl w.heap.size w).alloc (Nat.le_refl _) (.cells z 2)
  have hbw : base ≤ w.heap.size := Nat.le_trans hb B.size
  refine ⟨_, v7, v8, v9, v10, five_2 .., below_al B hb _, hb, w.heap.size, gH, b, g, fun _ => ⟨rfl, lies_zeros w base (rm + 2) hbw (by omega) z hz⟩, fun q => by rw [getD_set_at L true true (by omega), if_neg (by decide)] at q; have := f7 q; exact ⟨this.1, this.2.below bw⟩, fun q => by rw [getD_set_at L true true (by omega), if_neg (by decide)] at q; have := f8 q; exact ⟨this.1, this.2.1.below bw, this.2.2⟩, fun q => by rw [getD_set_at L true true (by omega), if_neg (by decide)] at q; have := f9 q; rw [hun] at this; simp at this, fun q => by rw [getD_set_at L true true (by omega), if_neg (by decide)] at q; have := f10 q; exact ⟨this.1, this.2.1.below bw this.2.1.lt, this.2.2⟩⟩
theorem MadeI.h (h : MadeI rm th base ab w0 L a w) (hs : 11 < L.size) (hun : L.getD 7 true = false) (z : Array Value) (hz : madeCells (hc noH) ((th + 1) * 7) = z) :
    MadeI rm th base ab w0 (L.setIfInBounds 7 true) (a.put (some 49) (.slice (some ⟨w.heap.size, 0, none⟩) (th + 1) (th + 1))) (w.alloc (.cells z 27)) := by
  obtain ⟨v2, v7, v8, v9, v10, rfl, B, hb, gM, gH, b, g, f2, f7, f8, f9, f10⟩ := h
  have bw := (Below.refl w.heap.size w).alloc (Nat.le_refl _) (.cells z 27)
  have hbw : base ≤ w.heap.size := Nat.le_trans hb B.size
  refine ⟨v2, _, v8, v9, v10, five_7 .., below_al B hb _, hb, gM, w.heap.size, b, g, fun q => by rw [getD_set_at L true true (by omega), if_neg (by decide)] at q; have := f2 q; exact ⟨this.1, this.2.below bw⟩, fun _ => ⟨rfl, hands_zero w base (th + 1) hbw z hz⟩, fun q => by rw [getD_set_at L true true (by omega), if_neg (by decide)] at q; have := f8 q; exact ⟨this.1, this.2.1.below bw, this.2.2⟩, fun q => by rw [getD_set_at L true true (by omega), if_neg (by decide)] at q; have := f9 q; rw [hun] at this; simp at this, fun q => by rw [getD_set_at L true true (by omega), if_neg (by decide)] at q; have := f10 q; exact ⟨this.1, this.2.1.below bw this.2.1.lt, this.2.2⟩⟩
theorem MadeI.b (h : MadeI rm th base ab w0 L a w) (hs : 11 < L.size) (hun : L.getD 8 true = false) :
    MadeI rm th base ab w0 (L.setIfInBounds 8 true) (a.put (some 50) (.map (some w.heap.size))) (w.alloc (.map #[] 0)) := by
  obtain ⟨v2, v7, v8, v9, v10, rfl, B, hb, gM, gH, b, g, f2, f7, f8, f9, f10⟩ := h
  have bw := (Below.refl w.heap.size w).alloc (Nat.le_refl _) (.map #[] 0)
  have hbw : base ≤ w.heap.size := Nat.le_trans hb B.size
  refine ⟨v2, v7, _, v9, v10, five_8 .., below_al B hb _, hb, gM, gH, w.heap.size, g, fun q => by rw [getD_set_at L true true (by omega), if_neg (by decide)] at q; have := f2 q; exact ⟨this.1, this.2.below bw⟩, fun q => by rw [getD_set_at L true true (by omega), if_neg (by decide)] at q; have := f7 q; exact ⟨this.1, this.2.below bw⟩, fun _ => ⟨rfl, CMap.made w, hbw⟩, fun q => by rw [getD_set_at L true true (by omega), if_neg (by decide)] at q; have := f9 q; rw [hun] at this; simp at this, fun q => by rw [getD_set_at L true true (by omega), if_neg (by decide)] at q; have := f10 q; exact ⟨this.1, this.2.1.below bw this.2.1.lt, this.2.2⟩⟩
theorem MadeI.g (h : MadeI rm th base ab w0 L a w) (hs : 11 < L.size) :
    MadeI rm th base ab w0 (L.setIfInBounds 10 true) (a.put (some 8) (.pointer (some ⟨w.heap.size, 0, none⟩))) (w.alloc (.cells zrR 49)) := by
  obtain ⟨v2, v7, v8, v9, v10, rfl, B, hb, gM, gH, b, g, f2, f7, f8, f9, f10⟩ := h
  have bw := (Below.refl w.heap.size w).alloc (Nat.le_refl _) (.cells zrR 49)
  have hbw : base ≤ w.heap.size := Nat.le_trans hb B.size
  refine ⟨v2, v7, v8, v9, _, five_10 .., below_al B hb _, hb, gM, gH, b, w.heap.size, fun q => by rw [getD_set_at L true true (by omega), if_neg (by decide)] at q; have := f2 q; exact ⟨this.1, this.2.below bw⟩, fun q => by rw [getD_set_at L true true (by omega), if_neg (by decide)] at q; have := f7 q; exact ⟨this.1, this.2.below bw⟩, fun q => by rw [getD_set_at L true true (by omega), if_neg (by decide)] at q; have := f8 q; exact ⟨this.1, this.2.1.below bw, this.2.2⟩, fun q => by rw [getD_set_at L true true (by omega), if_neg (by decide)] at q; have := f9 q; rw [getD_set_at L true true (by omega), getD_set_at L true true (by omega), getD_set_at L true true (by omega), if_neg (by decide), if_neg (by decide), if_neg (by decide)]; exact this, fun _ => ⟨rfl, Bk.new w 49 zrR, hbw⟩⟩
theorem MadeI.s (h : MadeI rm th base ab w0 L a w) (hs : 11 < L.size) (l2 : L.getD 2 true = true) (l7 : L.getD 7 true = true) (l8 : L.getD 8 true = true) :
    ∃ gM gH b v9 v10, a = five ab (.slice (some ⟨gM, 0, none⟩) (rm + 2) (rm + 2)) (.slice (some ⟨gH, 0, none⟩) (th + 1) (th + 1)) (.map (some b)) v9 v10 ∧
      MadeI rm th base ab w0 (L.setIfInBounds 9 true) (a.put (some 51) (.agg (raceC (.slice (some ⟨gM, 0, none⟩) (rm + 2) (rm + 2)) rm (.slice (some ⟨gH, 0, none⟩) (th + 1) (th + 1)) b 0 1000))) w := by
  obtain ⟨v2, v7, v8, v9, v10, rfl, B, hb, gM, gH, b, g, f2, f7, f8, f9, f10⟩ := h
  have e2 := (f2 l2).1
  have e7 := (f7 l7).1
  have e8 := (f8 l8).1
  subst e2 e7 e8
  refine ⟨gM, gH, b, v9, v10, rfl, _, _, _, _, v10, five_9 .., B, hb, gM, gH, b, g, fun _ => f2 l2, fun _ => f7 l7, fun _ => f8 l8, fun _ => ?_, fun q => ?_⟩
  · rw [getD_set_at L true true (by omega), getD_set_at L true true (by omega), getD_set_at L true true (by omega), if_neg (by decide), if_neg (by decide), if_neg (by decide)]
    exact ⟨l2, l7, l8, rfl⟩
  · rw [getD_set_at L true true (by omega), if_neg (by decide)] at q
    exact f10 q
end

end Go.Proofs.Ytfmiamjbhlglbaa

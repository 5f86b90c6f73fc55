/-
  Contracts of the functions of layer 5 that make places: a copy, the document's copy, new places.
-/
import Derived.Test.YtfaajimmammfdaaPa
import Derived.Deep.RegionHeld3
import Derived.OrdersHeld
import Derived.WalkSpells
import Derived.Deep.CutBlock
import Derived.Deep.DeepCutAuto
namespace Go.Proofs.Ytfaajimmammfdaa
open Go.RowKit

/-- What stays while a copy is made: the places, and where they are handed back. -/
def CopyS (w : World) (A : Option Addr) (n c : Nat) (B : Option Addr) (m d : Nat) (U : World) : Prop :=
  Below w.heap.size w U ∧ U.cell? ⟨w.heap.size, 0, none⟩ = some (.slice A n c) ∧ U.cell? ⟨w.heap.size, 1, none⟩ = some (.slice B m d)

theorem CopyS.set2 {w U : World} {A B : Option Addr} {n c m d : Nat} (h : CopyS w A n c B m d U) (x y : Value) : CopyS w A n c B m d ((U.setCell ⟨w.heap.size + 1, 0, none⟩ x).setCell ⟨w.heap.size + 1, 1, none⟩ y) := by
  refine ⟨(h.1.setCell (p := ⟨w.heap.size + 1, 0, none⟩) (by simp) x).setCell (p := ⟨w.heap.size + 1, 1, none⟩) (by simp) y, ?_, ?_⟩
  · rw [World.cell?_setCell_other _ _ _ _ (by simp), World.cell?_setCell_other _ _ _ _ (by simp)]; exact h.2.1
  · rw [World.cell?_setCell_other _ _ _ _ (by simp), World.cell?_setCell_other _ _ _ _ (by simp)]; exact h.2.2

set_option maxHeartbeats 2000000 in
theorem clone_any (A B : Option Addr) (n c m d : Nat) (gs : List Int) (ls : List Bool) (w : World) (hp : Plc w A n B m gs ls) :
    Calls Try.prog 26 #[.agg #[.slice A n c, .slice B m d]] w (NewP gs ls w) := by
  have HP := Lib.hid hp
  have k1 := Bk.alloc (Bk.new w 25 #[.slice A n c, .slice B m d]) (.cells #[.slice none 0 0, .slice none 0 0] 25)
  have k2 := Bk.new (w.alloc (.cells #[.slice A n c, .slice B m d] 25)) 25 #[.slice none 0 0, .slice none 0 0]
  rw [size_alloc] at k2
  have hb0 : Below w.heap.size w ((w.alloc (.cells #[.slice A n c, .slice B m d] 25)).alloc (.cells #[.slice none 0 0, .slice none 0 0] 25)) := (((Below.refl w.heap.size w).alloc (Nat.le_refl _) _).alloc (by simp) _)
  clear hp
  go_enter Try.func26, Try.ntmps26
  go_upto_region 1 with fail
  refine wp_region_held (S := CopyS w A n c B m d) (by kernel_rfl) ?_
  change wpAnyH _ _ _ _ _ _ _ _ (World.drew _)
  replace k1 := k1.drew
  replace k2 := k2.drew
  replace hb0 := hb0.drew
  generalize (((w.alloc (.cells #[.slice A n c, .slice B m d] 25)).alloc (.cells #[.slice none 0 0, .slice none 0 0] 25))).drew = w0 at k1 k2 hb0 ⊢
  have h0 : CopyS w A n c B m d w0 := ⟨hb0, k1.c0, k1.c1⟩
  have hs0 := k2.lt
  refine wpAnyH_take (i := 0) (v := .pointer (some ⟨w.heap.size, 0, none⟩)) rfl (by kernel_rfl) (by kernel_rfl) (by kernel_rfl) (fun _ _ _ h => h) (.inl ⟨by rfl, fun U hU => by go_simp⟩) h0 ?_
  refine wpAnyH_take (i := 1) (v := .slice A n c) rfl (by kernel_rfl) (by kernel_rfl) (by kernel_rfl) (fun _ _ _ h => h) (.inl ⟨by rfl, fun U hU => by have h3 := hU.2.1; go_simp⟩) h0 ?_
  refine wpAnyH_take (i := 3) (v := .pointer (some ⟨w.heap.size, 1, none⟩)) rfl (by kernel_rfl) (by kernel_rfl) (by kernel_rfl) (fun _ _ _ h => h) (.inl ⟨by rfl, fun U hU => by go_simp⟩) h0 ?_
  refine wpAnyH_take (i := 4) (v := .slice B m d) rfl (by kernel_rfl) (by kernel_rfl) (by kernel_rfl) (fun _ _ _ h => h) (.inl ⟨by rfl, fun U hU => by have h3 := hU.2.2; go_simp⟩) h0 ?_
  refine wpAnyH_all (rs := [2]) (by kernel_rfl) (by simp) ?_
  intro i hi
  simp only [List.mem_cons, List.not_mem_nil, or_false] at hi
  subst hi
  unfold wpOp
  go_simp
  left
  refine (cloneI_any A n c gs _ (HP.out.below h0.1).g).mono ?_
  rintro e w1 ⟨A', c', rfl, ho1, hb1⟩
  have h1 : CopyS w A n c B m d w1 := ⟨below3 h0.1 hb1, (k1.below hb1 k1.lt).c0, (k1.below hb1 k1.lt).c1⟩
  replace k2 := k2.below hb1 k2.lt
  refine ⟨h1, ?_⟩
  have O1 := Lib.hid ho1
  have hs1 := k1.lt
  have hs2 := hb1.size
  clear ho1 hb1
  refine wpAnyH_all (rs := [5]) (by kernel_rfl) (by simp) ?_
  intro i hi
  simp only [List.mem_cons, List.not_mem_nil, or_false] at hi
  subst hi
  unfold wpOp
  go_simp
  left
  refine (cloneB_any B m d ls _ (HP.out.below h1.1).l).mono ?_
  rintro e w2 ⟨B', d', rfl, ho2, hb2⟩
  have h2 : CopyS w A n c B m d w2 := ⟨below3 h1.1 hb2, (hb2.cell (p := ⟨w.heap.size, 0, none⟩) (Nat.lt_of_lt_of_le hs1 hs2)).trans h1.2.1, (hb2.cell (p := ⟨w.heap.size, 1, none⟩) (Nat.lt_of_lt_of_le hs1 hs2)).trans h1.2.2⟩
  replace k2 := k2.below hb2 k2.lt
  refine ⟨h2, ?_⟩
  have O2 := Lib.hid ho2
  replace O1 := Lib.hid (O1.out.below hb2)
  have h3 : CopyS w A n c B m d ((w2.setCell ⟨w.heap.size + 1, 0, none⟩ (.slice A' gs.length c')).setCell ⟨w.heap.size + 1, 1, none⟩ (.slice B' ls.length d')) := h2.set2 _ _
  have HN : Hid (OwnP ((w2.setCell ⟨w.heap.size + 1, 0, none⟩ (.slice A' gs.length c')).setCell ⟨w.heap.size + 1, 1, none⟩ (.slice B' ls.length d')) w.heap.size A' c' B' d' gs ls) :=
    Lib.hid ⟨((O1.out.far (p := ⟨w.heap.size + 1, 0, none⟩) hs0 _).far (p := ⟨w.heap.size + 1, 1, none⟩) hs0 _).base (by omega), ((O2.out.far (p := ⟨w.heap.size + 1, 0, none⟩) (Nat.lt_of_lt_of_le hs0 hs2) _).far (p := ⟨w.heap.size + 1, 1, none⟩) (Nat.lt_of_lt_of_le hs0 hs2) _).base (by omega), HP.out.l.1 ▸ HP.out.l.2.1⟩
  have H3 := Lib.hid h3.1
  clear ho2 hb2 O1 O2 hs1 hs2 hs0 k1
  refine wpAnyH_take (i := 6) (v := .agg #[.slice A' gs.length c', .slice B' ls.length d']) rfl (by kernel_rfl) (by kernel_rfl) (by kernel_rfl) (fun _ _ _ h => h) (.inl ⟨by rfl, fun U hU => by go_simp⟩) h2 ?_
  refine wpAnyH_all (rs := [7]) (by kernel_rfl) (by simp) ?_
  intro i hi
  simp only [List.mem_cons, List.not_mem_nil, or_false] at hi
  subst hi
  have c0 := k2.c0
  have c1 := k2.c1
  have f0 := k2.frozen 0
  have f1 := k2.frozen 1
  unfold wpOp
  go_simp
  left
  refine ⟨by kernel_rfl, ?_⟩
  clear h3 h2 h1 k2
  go_wp2
  exact bodyPost_ret (v := .agg #[.slice A' gs.length c', .slice B' ls.length d']) (by simp [results, Try.results26, go_sem, *]) rfl ⟨A', c', B', d', rfl, HN.out, H3.out⟩

theorem append_nilI (w : World) (B : Option Addr) (m d : Nat) (ys : List Int) (hy : Ints w B m ys) :
    ∃ A' c' w', (Builtin.append_ #[22, 22] 22 #[.slice none 0 0, .slice B m d]).run Try.prog w = .ok (.slice A' ys.length c') w' ∧ OwnI 2 w' w.heap.size A' c' ys ∧ Below w.heap.size w w' := by
  obtain ⟨v', w', hr, A', c', rfl, ho, hg⟩ := run_append_ints (P := Try.prog) w 22 22 2 Try.underlying22 Try.intsInfo w.heap.size none 0 [] (OwnI.nil_ _ _ _) B m d ys hy (by have := hy.2.1; simpa using this) (Nat.le_refl _)
  rw [List.nil_append] at ho hr
  exact ⟨A', c', w', hr, ho, (Below.refl _ _).grown hg (Nat.le_refl _) (by simp [Value.ownBlock])⟩

theorem append_nilB (w : World) (B : Option Addr) (m d : Nat) (ys : List Bool) (hy : Flags w B m ys) :
    ∃ A' c' w', (Builtin.append_ #[23, 23] 23 #[.slice none 0 0, .slice B m d]).run Try.prog w = .ok (.slice A' ys.length c') w' ∧ OwnB 4 w' w.heap.size A' c' ys ∧ Below w.heap.size w w' := by
  obtain ⟨A', c', w', hr, ho, hg⟩ := run_append_flags (P := Try.prog) w 23 23 4 Try.underlying23 Try.boolInfo w.heap.size none 0 [] (OwnB.nil_ _ _ _) B m d ys hy (by have := hy.2.1; simpa using this) (Nat.le_refl _)
  rw [List.nil_append] at ho hr
  exact ⟨A', c', w', hr, ho, (Below.refl _ _).grown hg (Nat.le_refl _) (by simp [Value.ownBlock])⟩

set_option maxHeartbeats 2000000 in
theorem rcopy_any (A B : Option Addr) (n c m d : Nat) (gs : List Int) (ls : List Bool) (w : World) (hp : Plc w A n B m gs ls) :
    Calls Try.prog 9 #[.agg #[.slice A n c, .slice B m d]] w (NewP gs ls w) := by
  have HP := Lib.hid hp
  have k1 := Bk.alloc (Bk.new w 25 #[.slice A n c, .slice B m d]) (.cells #[.slice none 0 0, .slice none 0 0] 25)
  have k2 := Bk.new (w.alloc (.cells #[.slice A n c, .slice B m d] 25)) 25 #[.slice none 0 0, .slice none 0 0]
  rw [size_alloc] at k2
  have hb0 : Below w.heap.size w ((w.alloc (.cells #[.slice A n c, .slice B m d] 25)).alloc (.cells #[.slice none 0 0, .slice none 0 0] 25)) := (((Below.refl w.heap.size w).alloc (Nat.le_refl _) _).alloc (by simp) _)
  clear hp
  go_enter Try.func9, Try.ntmps9
  go_upto_region 1 with fail
  refine wp_region_held (S := CopyS w A n c B m d) (by kernel_rfl) ?_
  change wpAnyH _ _ _ _ _ _ _ _ (World.drew _)
  replace k1 := k1.drew
  replace k2 := k2.drew
  replace hb0 := hb0.drew
  generalize (((w.alloc (.cells #[.slice A n c, .slice B m d] 25)).alloc (.cells #[.slice none 0 0, .slice none 0 0] 25))).drew = w0 at k1 k2 hb0 ⊢
  have h0 : CopyS w A n c B m d w0 := ⟨hb0, k1.c0, k1.c1⟩
  have hs0 := k2.lt
  refine wpAnyH_take (i := 0) (v := .pointer (some ⟨w.heap.size, 0, none⟩)) rfl (by kernel_rfl) (by kernel_rfl) (by kernel_rfl) (fun _ _ _ h => h) (.inl ⟨by rfl, fun U hU => by go_simp⟩) h0 ?_
  refine wpAnyH_take (i := 1) (v := .slice A n c) rfl (by kernel_rfl) (by kernel_rfl) (by kernel_rfl) (fun _ _ _ h => h) (.inl ⟨by rfl, fun U hU => by have h3 := hU.2.1; go_simp⟩) h0 ?_
  refine wpAnyH_take (i := 3) (v := .pointer (some ⟨w.heap.size, 1, none⟩)) rfl (by kernel_rfl) (by kernel_rfl) (by kernel_rfl) (fun _ _ _ h => h) (.inl ⟨by rfl, fun U hU => by go_simp⟩) h0 ?_
  refine wpAnyH_take (i := 4) (v := .slice B m d) rfl (by kernel_rfl) (by kernel_rfl) (by kernel_rfl) (fun _ _ _ h => h) (.inl ⟨by rfl, fun U hU => by have h3 := hU.2.2; go_simp⟩) h0 ?_
  refine wpAnyH_all (rs := [2]) (by kernel_rfl) (by simp) ?_
  intro i hi
  simp only [List.mem_cons, List.not_mem_nil, or_false] at hi
  subst hi
  obtain ⟨A', c', w1, hr1, ho1, hb1⟩ := append_nilI w0 A n c gs (HP.out.below h0.1).g
  refine wpOp_append (.const (.slice none 0 0)) (.tmp 4) 22 _ _ _ rfl (by rfl) rfl rfl rfl hr1 ?_
  have h1 : CopyS w A n c B m d w1 := ⟨below3 h0.1 hb1, (k1.below hb1 k1.lt).c0, (k1.below hb1 k1.lt).c1⟩
  replace k2 := k2.below hb1 k2.lt
  refine ⟨h1, ?_⟩
  have O1 := Lib.hid ho1
  have hs1 := k1.lt
  have hs2 := hb1.size
  clear ho1 hb1
  refine wpAnyH_all (rs := [5]) (by kernel_rfl) (by simp) ?_
  intro i hi
  simp only [List.mem_cons, List.not_mem_nil, or_false] at hi
  subst hi
  obtain ⟨B', d', w2, hr2, ho2, hb2⟩ := append_nilB w1 B m d ls (HP.out.below h1.1).l
  refine wpOp_append (.const (.slice none 0 0)) (.tmp 7) 23 _ _ _ rfl (by rfl) rfl rfl rfl hr2 ?_
  have h2 : CopyS w A n c B m d w2 := ⟨below3 h1.1 hb2, (hb2.cell (p := ⟨w.heap.size, 0, none⟩) (Nat.lt_of_lt_of_le hs1 hs2)).trans h1.2.1, (hb2.cell (p := ⟨w.heap.size, 1, none⟩) (Nat.lt_of_lt_of_le hs1 hs2)).trans h1.2.2⟩
  replace k2 := k2.below hb2 k2.lt
  refine ⟨h2, ?_⟩
  have O2 := Lib.hid ho2
  replace O1 := Lib.hid (O1.out.below hb2)
  have h3 : CopyS w A n c B m d ((w2.setCell ⟨w.heap.size + 1, 0, none⟩ (.slice A' gs.length c')).setCell ⟨w.heap.size + 1, 1, none⟩ (.slice B' ls.length d')) := h2.set2 _ _
  have HN : Hid (OwnP ((w2.setCell ⟨w.heap.size + 1, 0, none⟩ (.slice A' gs.length c')).setCell ⟨w.heap.size + 1, 1, none⟩ (.slice B' ls.length d')) w.heap.size A' c' B' d' gs ls) :=
    Lib.hid ⟨((O1.out.far (p := ⟨w.heap.size + 1, 0, none⟩) hs0 _).far (p := ⟨w.heap.size + 1, 1, none⟩) hs0 _).base (by omega), ((O2.out.far (p := ⟨w.heap.size + 1, 0, none⟩) (Nat.lt_of_lt_of_le hs0 hs2) _).far (p := ⟨w.heap.size + 1, 1, none⟩) (Nat.lt_of_lt_of_le hs0 hs2) _).base (by omega), HP.out.l.1 ▸ HP.out.l.2.1⟩
  have H3 := Lib.hid h3.1
  clear ho2 hb2 O1 O2 hs1 hs2 hs0 k1
  refine wpAnyH_take (i := 6) (v := .agg #[.slice A' gs.length c', .slice B' ls.length d']) rfl (by kernel_rfl) (by kernel_rfl) (by kernel_rfl) (fun _ _ _ h => h) (.inl ⟨by rfl, fun U hU => by go_simp⟩) h2 ?_
  refine wpAnyH_all (rs := [7]) (by kernel_rfl) (by simp) ?_
  intro i hi
  simp only [List.mem_cons, List.not_mem_nil, or_false] at hi
  subst hi
  have c0 := k2.c0
  have c1 := k2.c1
  have f0 := k2.frozen 0
  have f1 := k2.frozen 1
  unfold wpOp
  go_simp
  left
  refine ⟨by kernel_rfl, ?_⟩
  clear h3 h2 h1 k2
  go_wp2
  exact bodyPost_ret (v := .agg #[.slice A' gs.length c', .slice B' ls.length d']) (by simp [results, Try.results9, go_sem, *]) rfl ⟨A', c', B', d', rfl, HN.out, H3.out⟩


end Go.Proofs.Ytfaajimmammfdaa

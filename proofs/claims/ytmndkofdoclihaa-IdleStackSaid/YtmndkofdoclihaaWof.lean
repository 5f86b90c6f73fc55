/-
  Layer 17: clone and Copy, with; New, both sides.
-/
import Derived.Test.YtmndkofdoclihaaWoe
import Derived.Deep.RegionHeld3
import Derived.OrdersHeld
import Derived.RegionTactic
import Derived.BigRegion
import Derived.Laws.CopyRow
import Derived.Laws.Bits64b
import Derived.MakeChecks
import Derived.Deep.OwnRows
namespace Go.Proofs.Ytmndkofdoclihaa
open Go.RowKit

/-- What stays while a copy is made: the places, and where they are handed back. -/
def CopySw (w : World) (A : Option Addr) (n c : Nat) (B : Option Addr) (m d : Nat) (U : World) : Prop :=
  Below w.heap.size w U ∧ U.cell? ⟨w.heap.size, 0, none⟩ = some (.slice A n c) ∧ U.cell? ⟨w.heap.size, 1, none⟩ = some (.slice B m d)

theorem CopySw.set2 {w U : World} {A B : Option Addr} {n c m d : Nat} (h : CopySw w A n c B m d U) (x y : Value) : CopySw w A n c B m d ((U.setCell ⟨w.heap.size + 1, 0, none⟩ x).setCell ⟨w.heap.size + 1, 1, none⟩ y) := by
  refine ⟨(h.1.setCell (p := ⟨w.heap.size + 1, 0, none⟩) (by simp) x).setCell (p := ⟨w.heap.size + 1, 1, none⟩) (by simp) y, ?_, ?_⟩
  · rw [World.cell?_setCell_other _ _ _ _ (by simp), World.cell?_setCell_other _ _ _ _ (by simp)]; exact h.2.1
  · rw [World.cell?_setCell_other _ _ _ _ (by simp), World.cell?_setCell_other _ _ _ _ (by simp)]; exact h.2.2

set_option maxHeartbeats 2000000 in
theorem clone_wo (A B : Option Addr) (n c m d : Nat) (gs ls : List Int) (w : World) (hi : Ints w A n gs) (hs : Ints w B m ls) :
    Calls Try.prog 30 #[.agg #[.slice A n c, .slice B m d]] w (CopyW gs ls w) := by
  have HI := Lib.hid hi
  have HS := Lib.hid hs
  have k1 := Bk.alloc (Bk.new w 24 #[.slice A n c, .slice B m d]) (.cells #[.slice none 0 0, .slice none 0 0] 24)
  have k2 := Bk.new (w.alloc (.cells #[.slice A n c, .slice B m d] 24)) 24 #[.slice none 0 0, .slice none 0 0]
  rw [size_alloc] at k2
  have hb0 : Below w.heap.size w ((w.alloc (.cells #[.slice A n c, .slice B m d] 24)).alloc (.cells #[.slice none 0 0, .slice none 0 0] 24)) := (((Below.refl w.heap.size w).alloc (Nat.le_refl _) _).alloc (by simp) _)
  clear hi hs
  go_enter Try.func30, Try.ntmps30
  go_upto_region 1 with fail
  refine wp_region_held (S := CopySw w A n c B m d) (by kernel_rfl) ?_
  change wpAnyH _ _ _ _ _ _ _ _ (World.drew _)
  replace k1 := k1.drew
  replace k2 := k2.drew
  replace hb0 := hb0.drew
  generalize (((w.alloc (.cells #[.slice A n c, .slice B m d] 24)).alloc (.cells #[.slice none 0 0, .slice none 0 0] 24))).drew = w0 at k1 k2 hb0 ⊢
  have h0 : CopySw w A n c B m d w0 := ⟨hb0, k1.c0, k1.c1⟩
  have hs0 := k2.lt
  refine wpAnyH_take (i := 0) (v := .pointer (some ⟨w.heap.size, 0, none⟩)) rfl (by kernel_rfl) (by kernel_rfl) (by kernel_rfl) (fun _ _ _ h => h) (.inl ⟨by rfl, fun U hU => by go_simp⟩) h0 ?_
  refine wpAnyH_take (i := 1) (v := .slice A n c) rfl (by kernel_rfl) (by kernel_rfl) (by kernel_rfl) (fun _ _ _ h => h) (.inl ⟨by rfl, fun U hU => by have h3 := hU.2.1; go_simp⟩) h0 ?_
  refine wpAnyH_take (i := 3) (v := .pointer (some ⟨w.heap.size, 1, none⟩)) rfl (by kernel_rfl) (by kernel_rfl) (by kernel_rfl) (fun _ _ _ h => h) (.inl ⟨by rfl, fun U hU => by go_simp⟩) h0 ?_
  refine wpAnyH_take (i := 4) (v := .slice B m d) rfl (by kernel_rfl) (by kernel_rfl) (by kernel_rfl) (fun _ _ _ h => h) (.inl ⟨by rfl, fun U hU => by have h3 := hU.2.2; go_simp⟩) h0 ?_
  refine wpAnyH_all (rs := [2]) (by kernel_rfl) (by simp) ?_
  intro i hi
  simp only [List.mem_cons, List.not_mem_nil, or_false] at hi
  subst hi
  unfold wpOp
  go_simp
  left
  refine (cloneI_wo A n c gs _ (HI.out.below h0.1)).mono ?_
  rintro e w1 ⟨A', c', rfl, ho1, hb1⟩
  have h1 : CopySw w A n c B m d w1 := ⟨below3 h0.1 hb1, (k1.below hb1 k1.lt).c0, (k1.below hb1 k1.lt).c1⟩
  replace k2 := k2.below hb1 k2.lt
  refine ⟨h1, ?_⟩
  have O1 := Lib.hid ho1
  have HAP := Lib.hid fun k (e : blkW A' = some k) => (ho1.blkW_lt k e).2
  have hs1 := k1.lt
  have hs2 := hb1.size
  clear ho1 hb1
  refine wpAnyH_all (rs := [5]) (by kernel_rfl) (by simp) ?_
  intro i hi
  simp only [List.mem_cons, List.not_mem_nil, or_false] at hi
  subst hi
  unfold wpOp
  go_simp
  left
  refine (cloneI_wo B m d ls _ (HS.out.below h1.1)).mono ?_
  rintro e w2 ⟨B', d', rfl, ho2, hb2⟩
  have h2 : CopySw w A n c B m d w2 := ⟨below3 h1.1 hb2, (hb2.cell (p := ⟨w.heap.size, 0, none⟩) (Nat.lt_of_lt_of_le hs1 hs2)).trans h1.2.1, (hb2.cell (p := ⟨w.heap.size, 1, none⟩) (Nat.lt_of_lt_of_le hs1 hs2)).trans h1.2.2⟩
  replace k2 := k2.below hb2 k2.lt
  refine ⟨h2, ?_⟩
  have O2 := Lib.hid ho2
  replace O1 := Lib.hid (O1.out.below hb2)
  have h3 : CopySw w A n c B m d ((w2.setCell ⟨w.heap.size + 1, 0, none⟩ (.slice A' gs.length c')).setCell ⟨w.heap.size + 1, 1, none⟩ (.slice B' ls.length d')) := h2.set2 _ _
  have HN : Hid (OwnW ((w2.setCell ⟨w.heap.size + 1, 0, none⟩ (.slice A' gs.length c')).setCell ⟨w.heap.size + 1, 1, none⟩ (.slice B' ls.length d')) w.heap.size A' c' B' d' gs ls) :=
    Lib.hid ⟨((O1.out.far (p := ⟨w.heap.size + 1, 0, none⟩) hs0 _).far (p := ⟨w.heap.size + 1, 1, none⟩) hs0 _).base (by omega), w1.heap.size, h1.1.size, ((O2.out.far (p := ⟨w.heap.size + 1, 0, none⟩) (Nat.lt_of_lt_of_le hs0 hs2) _).far (p := ⟨w.heap.size + 1, 1, none⟩) (Nat.lt_of_lt_of_le hs0 hs2) _), HAP.out⟩
  have H3 := Lib.hid h3.1
  clear ho2 hb2 O1 O2 hs1 hs2 hs0 k1
  refine wpAnyH_take (i := 6) (v := .agg #[.slice A' gs.length c', .slice B' ls.length d']) rfl (by kernel_rfl) (by kernel_rfl) (by kernel_rfl) (fun _ _ _ h => h) (.inl ⟨by rfl, fun U hU => by go_simp⟩) h2 ?_
  refine wpAnyH_all (rs := [7]) (by kernel_rfl) (by simp) ?_
  intro i hi
  simp only [List.mem_cons, List.not_mem_nil, or_false] at hi
  subst hi
  have c0 := k2.c0
  have c1 := k2.c1
  have f0 := k2.frozen 0
  have f1 := k2.frozen 1
  unfold wpOp
  go_simp
  left
  refine ⟨by kernel_rfl, ?_⟩
  clear h3 h2 h1 k2
  go_wp2
  exact bodyPost_ret (v := .agg #[.slice A' gs.length c', .slice B' ls.length d']) (by simp [results, Try.results30, go_sem, *]) rfl ⟨A', c', B', d', rfl, HN.out, H3.out⟩

theorem append_nilW (w : World) (B : Option Addr) (m d : Nat) (ys : List Int) (hy : Ints w B m ys) :
    ∃ A' c' w', (Builtin.append_ #[22, 22] 22 #[.slice none 0 0, .slice B m d]).run Try.prog w = .ok (.slice A' ys.length c') w' ∧ OwnI 3 w' w.heap.size A' c' ys ∧ Below w.heap.size w w' := by
  obtain ⟨v', w', hr, A', c', rfl, ho, hg⟩ := run_append_ints (P := Try.prog) w 22 22 3 Try.underlying22 Try.intInfo17 w.heap.size none 0 [] (OwnI.nil_ _ _ _) B m d ys hy (by have := hy.2.1; simpa using this) (Nat.le_refl _)
  rw [List.nil_append] at ho hr
  exact ⟨A', c', w', hr, ho, (Below.refl _ _).grown hg (Nat.le_refl _) (by simp [Value.ownBlock])⟩

set_option maxHeartbeats 2000000 in
theorem copy_wo (A B : Option Addr) (n c m d : Nat) (gs ls : List Int) (w : World) (hi : Ints w A n gs) (hs : Ints w B m ls) :
    Calls Try.prog 8 #[.agg #[.slice A n c, .slice B m d]] w (CopyW gs ls w) := by
  have HI := Lib.hid hi
  have HS := Lib.hid hs
  have k1 := Bk.alloc (Bk.new w 24 #[.slice A n c, .slice B m d]) (.cells #[.slice none 0 0, .slice none 0 0] 24)
  have k2 := Bk.new (w.alloc (.cells #[.slice A n c, .slice B m d] 24)) 24 #[.slice none 0 0, .slice none 0 0]
  rw [size_alloc] at k2
  have hb0 : Below w.heap.size w ((w.alloc (.cells #[.slice A n c, .slice B m d] 24)).alloc (.cells #[.slice none 0 0, .slice none 0 0] 24)) := (((Below.refl w.heap.size w).alloc (Nat.le_refl _) _).alloc (by simp) _)
  clear hi hs
  go_enter Try.func8, Try.ntmps8
  go_upto_region 1 with fail
  refine wp_region_held (S := CopySw w A n c B m d) (by kernel_rfl) ?_
  change wpAnyH _ _ _ _ _ _ _ _ (World.drew _)
  replace k1 := k1.drew
  replace k2 := k2.drew
  replace hb0 := hb0.drew
  generalize (((w.alloc (.cells #[.slice A n c, .slice B m d] 24)).alloc (.cells #[.slice none 0 0, .slice none 0 0] 24))).drew = w0 at k1 k2 hb0 ⊢
  have h0 : CopySw w A n c B m d w0 := ⟨hb0, k1.c0, k1.c1⟩
  have hs0 := k2.lt
  refine wpAnyH_take (i := 0) (v := .pointer (some ⟨w.heap.size, 0, none⟩)) rfl (by kernel_rfl) (by kernel_rfl) (by kernel_rfl) (fun _ _ _ h => h) (.inl ⟨by rfl, fun U hU => by go_simp⟩) h0 ?_
  refine wpAnyH_take (i := 1) (v := .slice A n c) rfl (by kernel_rfl) (by kernel_rfl) (by kernel_rfl) (fun _ _ _ h => h) (.inl ⟨by rfl, fun U hU => by have h3 := hU.2.1; go_simp⟩) h0 ?_
  refine wpAnyH_take (i := 3) (v := .pointer (some ⟨w.heap.size, 1, none⟩)) rfl (by kernel_rfl) (by kernel_rfl) (by kernel_rfl) (fun _ _ _ h => h) (.inl ⟨by rfl, fun U hU => by go_simp⟩) h0 ?_
  refine wpAnyH_take (i := 4) (v := .slice B m d) rfl (by kernel_rfl) (by kernel_rfl) (by kernel_rfl) (fun _ _ _ h => h) (.inl ⟨by rfl, fun U hU => by have h3 := hU.2.2; go_simp⟩) h0 ?_
  refine wpAnyH_all (rs := [2]) (by kernel_rfl) (by simp) ?_
  intro i hi
  simp only [List.mem_cons, List.not_mem_nil, or_false] at hi
  subst hi
  obtain ⟨A', c', w1, hr1, ho1, hb1⟩ := append_nilW w0 A n c gs (HI.out.below h0.1)
  refine wpOp_append (.const (.slice none 0 0)) (.tmp 4) 22 _ _ _ rfl (by rfl) rfl rfl rfl hr1 ?_
  have h1 : CopySw w A n c B m d w1 := ⟨below3 h0.1 hb1, (k1.below hb1 k1.lt).c0, (k1.below hb1 k1.lt).c1⟩
  replace k2 := k2.below hb1 k2.lt
  refine ⟨h1, ?_⟩
  have O1 := Lib.hid ho1
  have HAP := Lib.hid fun k (e : blkW A' = some k) => (ho1.blkW_lt k e).2
  have hs1 := k1.lt
  have hs2 := hb1.size
  clear ho1 hb1
  refine wpAnyH_all (rs := [5]) (by kernel_rfl) (by simp) ?_
  intro i hi
  simp only [List.mem_cons, List.not_mem_nil, or_false] at hi
  subst hi
  obtain ⟨B', d', w2, hr2, ho2, hb2⟩ := append_nilW w1 B m d ls (HS.out.below h1.1)
  refine wpOp_append (.const (.slice none 0 0)) (.tmp 7) 22 _ _ _ rfl (by rfl) rfl rfl rfl hr2 ?_
  have h2 : CopySw w A n c B m d w2 := ⟨below3 h1.1 hb2, (hb2.cell (p := ⟨w.heap.size, 0, none⟩) (Nat.lt_of_lt_of_le hs1 hs2)).trans h1.2.1, (hb2.cell (p := ⟨w.heap.size, 1, none⟩) (Nat.lt_of_lt_of_le hs1 hs2)).trans h1.2.2⟩
  replace k2 := k2.below hb2 k2.lt
  refine ⟨h2, ?_⟩
  have O2 := Lib.hid ho2
  replace O1 := Lib.hid (O1.out.below hb2)
  have h3 : CopySw w A n c B m d ((w2.setCell ⟨w.heap.size + 1, 0, none⟩ (.slice A' gs.length c')).setCell ⟨w.heap.size + 1, 1, none⟩ (.slice B' ls.length d')) := h2.set2 _ _
  have HN : Hid (OwnW ((w2.setCell ⟨w.heap.size + 1, 0, none⟩ (.slice A' gs.length c')).setCell ⟨w.heap.size + 1, 1, none⟩ (.slice B' ls.length d')) w.heap.size A' c' B' d' gs ls) :=
    Lib.hid ⟨((O1.out.far (p := ⟨w.heap.size + 1, 0, none⟩) hs0 _).far (p := ⟨w.heap.size + 1, 1, none⟩) hs0 _).base (by omega), w1.heap.size, h1.1.size, ((O2.out.far (p := ⟨w.heap.size + 1, 0, none⟩) (Nat.lt_of_lt_of_le hs0 hs2) _).far (p := ⟨w.heap.size + 1, 1, none⟩) (Nat.lt_of_lt_of_le hs0 hs2) _), HAP.out⟩
  have H3 := Lib.hid h3.1
  clear ho2 hb2 O1 O2 hs1 hs2 hs0 k1
  refine wpAnyH_take (i := 6) (v := .agg #[.slice A' gs.length c', .slice B' ls.length d']) rfl (by kernel_rfl) (by kernel_rfl) (by kernel_rfl) (fun _ _ _ h => h) (.inl ⟨by rfl, fun U hU => by go_simp⟩) h2 ?_
  refine wpAnyH_all (rs := [7]) (by kernel_rfl) (by simp) ?_
  intro i hi
  simp only [List.mem_cons, List.not_mem_nil, or_false] at hi
  subst hi
  have c0 := k2.c0
  have c1 := k2.c1
  have f0 := k2.frozen 0
  have f1 := k2.frozen 1
  unfold wpOp
  go_simp
  left
  refine ⟨by kernel_rfl, ?_⟩
  clear h3 h2 h1 k2
  go_wp2
  exact bodyPost_ret (v := .agg #[.slice A' gs.length c', .slice B' ls.length d']) (by simp [results, Try.results8, go_sem, *]) rfl ⟨A', c', B', d', rfl, HN.out, H3.out⟩

set_option maxHeartbeats 1000000 in
theorem with_wo (A B : Option Addr) (n a m b : Nat) (is st : List Int) (j : Nat) (x : Int) (w : World) (hj : j < n) (hx : Fit x) (hi : Ints w A n is) (hs : Ints w B m st) :
    Calls Try.prog 32 #[.agg #[.slice A n a, .slice B m b], .int .i64 (j : Int), .int .i64 x] w (CopyW (is.set j x) st w) := by
  obtain ⟨kb0, kb1, hb0⟩ := lies2 w #[.slice A n a, .slice B m b] #[.slice none 0 0, .slice none 0 0] 24 24
  obtain ⟨V, hV⟩ : ∃ V, (w.alloc (.cells #[.slice A n a, .slice B m b] 24)).alloc (.cells #[.slice none 0 0, .slice none 0 0] 24) = V := ⟨_, rfl⟩
  rw [hV] at hb0 kb0 kb1
  have HV := Lib.hid hV
  have BB := Lib.hid hb0
  have KD := Lib.hid kb0
  have HBD : Hid (w.heap.size ≤ w.heap.size) := Lib.hid (by omega)
  have KR := Lib.hid kb1
  have HBR : Hid (w.heap.size ≤ (w.heap.size + 1)) := Lib.hid (by omega)
  have OD_R : Hid (w.heap.size < (w.heap.size + 1)) := Lib.hid (by omega)
  clear hV hb0 kb0 kb1
  go_enter Try.func32, Try.ntmps32
  go_upto_region 1 with fail
  rw [HV.out]
  clear HV
  obtain ⟨qD_0, qD_1⟩ := KD.out.c2w
  have lD := KD.out.lt
  go_wp2_with fail
  refine (copy_wo A B n a m b is st _ (hi.below BB.out) (hs.below BB.out)).mono ?_
  try dsimp only
  rintro e U1 ⟨Ac, ac, Bc, bc, he, ow, bU1⟩
  try dsimp only at he ow
  subst he
  clear qD_0 qD_1 lD
  obtain ⟨gc, rfl, hga, hgl, -, -⟩ := ow.i.form (by have := hi.1; omega)
  have OD_c : Hid (w.heap.size < gc) := Lib.hid (by have := KD.out.lt; omega)
  have OR_c : Hid ((w.heap.size + 1) < gc) := Lib.hid (by have := KR.out.lt; omega)
  have HBc : Hid (w.heap.size ≤ gc) := Lib.hid (by have := BB.out.size; omega)
  clear hga hgl
  have LD_c : Hid (w.heap.size < V.heap.size) := Lib.hid KD.out.lt
  have LR_c : Hid ((w.heap.size + 1) < V.heap.size) := Lib.hid KR.out.lt
  have HBBc : Hid (w.heap.size ≤ V.heap.size) := Lib.hid BB.out.size
  have Rc := Lib.hid ow
  clear ow
  replace KD := Lib.hid (KD.out.below bU1 KD.out.lt)
  replace KR := Lib.hid (KR.out.below bU1 KR.out.lt)
  replace BB := Lib.hid (below3 BB.out bU1)
  clear bU1
  have kt := Bk.new U1 24 #[.slice (some ⟨gc, 0, none⟩) is.length ac, .slice Bc st.length bc]
  have ba := (Below.refl U1.heap.size U1).alloc (Nat.le_refl _) (.cells #[.slice (some ⟨gc, 0, none⟩) is.length ac, .slice Bc st.length bc] 24)
  have oD := KD.out.lt
  have oR := KR.out.lt
  have oc := Rc.out.i.lt
  have hgb := BB.out.size
  replace KD := Lib.hid (KD.out.below ba KD.out.lt)
  replace KR := Lib.hid (KR.out.below ba KR.out.lt)
  replace Rc := Lib.hid (Rc.out.below ba)
  replace BB := Lib.hid (below3 BB.out ba)
  clear ba
  obtain ⟨W2, hW⟩ : ∃ W, U1.alloc (.cells #[.slice (some ⟨gc, 0, none⟩) is.length ac, .slice Bc st.length bc] 24) = W := ⟨_, rfl⟩
  obtain ⟨gN, hg⟩ : ∃ g, U1.heap.size = g := ⟨_, rfl⟩
  rw [hW] at kt BB KD KR Rc
  rw [hg] at kt hgb oD oR oc
  have HW := Lib.hid hW
  have HG := Lib.hid hg
  have KN := Lib.hid kt
  have HBN := Lib.hid hgb
  have OD_N := Lib.hid oD
  have OR_N := Lib.hid oR
  have Oc_N := Lib.hid oc
  clear hW hg kt hgb oD oR oc
  go_upto_region 2 with fail
  rw [HW.out]
  try rw [HG.out]
  clear HW HG
  obtain ⟨c0, f0⟩ := Rc.out.i.at_ (j := j) (by have := hi.1; omega)
  have lc := Rc.out.i.lt
  have hjl : j < is.length := by have := hi.1; omega
  obtain ⟨qN_0, qN_1⟩ := KN.out.c2w
  have lN := KN.out.lt
  have x0 := Rc.out.setI j (x := x) hx
  have xb := BB.out.setCell (p := ⟨gc, j, none⟩) HBc.out (.int .i64 x)
  have xD := KD.out.far (p := ⟨gc, j, none⟩) (Nat.ne_of_lt OD_c.out) (.int .i64 x)
  have xR := KR.out.far (p := ⟨gc, j, none⟩) (Nat.ne_of_lt OR_c.out) (.int .i64 x)
  have xN := KN.out.far (p := ⟨gc, j, none⟩) (Nat.ne_of_gt Oc_N.out) (.int .i64 x)
  obtain ⟨X2, hX⟩ : ∃ X, W2.setCell ⟨gc, j, none⟩ (.int .i64 x) = X := ⟨_, rfl⟩
  rw [hX] at x0 xb xD xR xN
  have HX := Lib.hid hX
  replace Rc := Lib.hid x0
  replace BB := Lib.hid xb
  replace KD := Lib.hid xD
  replace KR := Lib.hid xR
  replace KN := Lib.hid xN
  clear hX x0 xb xD xR xN
  go_upto_region 3 with fail
  rw [HX.out]
  clear HX
  clear qN_0 qN_1 lN c0 f0 lc
  obtain ⟨qN_0, qN_1⟩ := KN.out.c2w
  have lN := KN.out.lt
  obtain ⟨qR_0, qR_1⟩ := KR.out.c2w
  have lR := KR.out.lt
  obtain ⟨fR_0, fR_1⟩ := KR.out.f2w
  have B_R := Lib.hid (below_set2w (g := (w.heap.size + 1)) BB.out HBR.out (.slice (some ⟨gc, 0, none⟩) is.length ac) (.slice Bc st.length bc))
  have S_R := Lib.hid (bk_set2w KR.out (.slice (some ⟨gc, 0, none⟩) is.length ac) (.slice Bc st.length bc))
  have T_R := Lib.hid (ownW_set2 (g := (w.heap.size + 1)) Rc.out LR_c.out (.slice (some ⟨gc, 0, none⟩) is.length ac) (.slice Bc st.length bc))
  have HBF := Lib.hid (B_R.out)
  have RR := Lib.hid (T_R.out)
  unfold set2w at HBF RR
  go_wp2
  obtain ⟨rR_0, rR_1⟩ := (S_R.out).c2w
  unfold set2w at rR_0 rR_1
  exact bodyPost_ret (v := .agg #[.slice (some ⟨gc, 0, none⟩) is.length ac, .slice Bc st.length bc]) (by simp [results, Try.results32, go_sem, rR_0, rR_1]) rfl (⟨some ⟨gc, 0, none⟩, ac, Bc, bc, by simp, RR.out.base_ HBBc.out, HBF.out⟩)

theorem maskNW (a : Nat) (ha : a < 4294967296) : bits .and .u64 (a : Int) 4294967295 = (a : Int) := by
  have h := bits_and_u64_nat a 4294967295 (by omega) (by omega)
  have e : a &&& 4294967295 = a % 4294967296 := Nat.and_two_pow_sub_one_eq_mod a 32
  rw [e, Nat.mod_eq_of_lt ha] at h
  exact h

theorem mul64_oneW (n : Nat) (hn : n ≤ 1024) (w : World) : Calls Try.prog 51 #[.int .u64 1, .int .u64 n] w fun e w' => e = .returned (.tuple #[.int .u64 0, .int .u64 n]) ∧ w' = w := by
  have m1 : bits .and .u64 1 4294967295 = 1 := maskNW 1 (by omega)
  have m2 : bits .and .u64 (n : Int) 4294967295 = (n : Int) := maskNW n (by omega)
  have d2 : (n : Int) / 4294967296 = 0 := by omega
  have w2 : IntKind.u64.wrap (n : Int) = n := by rw [IntKind.wrap_u64]; omega
  go_enter Try.func51, Try.ntmps51
  go_wp2
  go_ret2
  have m0 : bits .and .u64 0 4294967295 = 0 := maskNW 0 (by omega)
  have w0 : IntKind.u64.wrap 0 = 0 := by rw [IntKind.wrap_u64]; rfl
  simp [m0, w0]
theorem mul_oneW (n : Nat) (hn : n ≤ 1024) (w : World) : Calls Try.prog 40 #[.int .u64 1, .int .u64 n] w fun e w' => e = .returned (.tuple #[.int .u64 0, .int .u64 n]) ∧ w' = w := by
  go_enter Try.func40, Try.ntmps40
  go_wp2_with (go_at_call 51; refine (mul64_oneW n hn w).mono ?_; rintro e w' ⟨rfl, hw⟩; rw [hw])
  go_ret2
  exact ⟨rfl, rfl⟩

/-- The first k of n cells of a block hold x. -/
def FlW (w : World) (g n k : Nat) (x : Int) : Prop := ∃ cs, Bk w g 3 cs ∧ cs.size = n ∧ k ≤ n ∧ ∀ j, j < k → cs[j]? = some (.int .i64 x)
theorem FlW.cell {w : World} {g n k : Nat} {x : Int} (h : FlW w g n k x) {j : Nat} (hj : j < k) : w.cell? ⟨g, j, none⟩ = some (.int .i64 x) := by
  obtain ⟨cs, h1, h2, h3, h4⟩ := h
  rw [h1.cell, h4 j hj]
theorem FlW.drew {w : World} {g n k : Nat} {x : Int} (h : FlW w g n k x) : FlW w.drew g n k x := h

/-- copy onto the cells that are not filled yet. -/
theorem FlW.copy {w : World} {g n k : Nat} {x : Int} (h : FlW w g n k x) (b : Nat) (m c : Nat) (hb : ∀ j, j < m → w.cell? ⟨b, j, none⟩ = some (.int .i64 x)) (d : Nat) :
    ∃ w', (Builtin.copy_ #[22, 22] 3 #[.slice (some ⟨g, k, none⟩) (n - k) d, .slice (some ⟨b, 0, none⟩) m c]).run Try.prog w = .ok (.int .i64 ((Nat.min m (n - k) : Nat) : Int)) w' ∧ FlW w' g n (k + Nat.min m (n - k)) x ∧ (∃ c', w' = w.setRow g c') := by
  obtain ⟨cs, h1, h2, h3, h4⟩ := h
  have hlen : (List.replicate (Nat.min m (n - k)) (Value.int .i64 x)).length = Nat.min m (n - k) := by simp
  have hm1 : Nat.min m (n - k) ≤ m := Nat.min_le_left _ _
  have hm2 : Nat.min m (n - k) ≤ n - k := Nat.min_le_right _ _
  have hr := run_copy_row Try.prog w 22 22 3 3 g k (n - k) d ⟨b, 0, none⟩ m c cs 3 (List.replicate (Nat.min m (n - k)) (.int .i64 x)) Try.underlying22 (by kernel_rfl) h1 hlen
    (fun j v hv => by
      have hj : j < Nat.min m (n - k) := by
        have := (List.getElem?_eq_some_iff.1 hv).1
        rwa [hlen] at this
      rw [List.getElem?_replicate, if_pos hj] at hv
      injection hv with hv
      rw [← hv, Addr.add_lit, Nat.zero_add]
      exact hb j (by omega)) (by rw [hlen, h2]; omega) (fun v hv => by rw [(List.mem_replicate.1 hv).2]; rfl)
  rw [hlen] at hr
  refine ⟨_, hr, ⟨_, h1.row _, ?_, by omega, fun j hj => ?_⟩, _, rfl⟩
  · simp
    omega
  · simp only [List.getElem?_toArray]
    have hcl : cs.toList.length = n := by simpa using h2
    rcases Nat.lt_or_ge j k with a | a
    · rw [List.append_assoc, List.getElem?_append_left (by simp; omega), List.getElem?_take, if_pos a]
      simpa using h4 j a
    · rw [List.append_assoc, List.getElem?_append_right (by simp; omega), List.getElem?_append_left (by simp; omega), List.getElem?_replicate, if_pos (by simp; omega)]

theorem mkIntsW (n : Nat) (h : n ≤ 1024) (W : World) : (Instr.makeSlice 22 (.int .i64 (n : Int)) (.int .i64 (n : Int))).run Try.prog W = .ok (.slice (some ⟨W.heap.size, 0, none⟩) n n) (W.alloc (.cells (madeCells #[.int .i64 0] n) 3)) :=
  run_make_row' (P := Try.prog) 22 3 (.int .i64 0) 8 Try.underlying22 Try.intInfo17 rfl .i64 .i64 n (by omega) (by omega) W
theorem made_lieW (w : World) (n : Nat) (x : Int) : FlW (w.alloc (.cells (madeCells #[.int .i64 0] n) 3)) w.heap.size n 0 x :=
  ⟨_, Bk.new _ _ _, by rw [← Array.length_toList, toList_madeCells_one]; simp, by omega, fun j hj => by omega⟩
/-- Filled whole. -/
theorem FlW.own {w : World} {g n base : Nat} {x : Int} (h : FlW w g n n x) (hb : base ≤ g) (hx : Fit x) (hn : n ≤ 1024) : OwnI 3 w base (some ⟨g, 0, none⟩) n (List.replicate n x) := by
  obtain ⟨cs, h1, h2, h3, h4⟩ := h
  refine ⟨by simp; omega, fun z hz => by rw [(List.mem_replicate.1 hz).2]; exact hx, by simp, .inr ⟨g, n, cs, by simp, hb, h1, by simp, by unfold maxLen; omega, by omega, ?_⟩⟩
  simp only [List.length_replicate, Nat.mul_one, List.map_replicate]
  refine List.ext_getElem? fun j => ?_
  rw [List.getElem?_take, List.getElem?_replicate]
  split
  · rename_i hj
    simpa using h4 j hj
  · rfl

theorem wpList_copyW {P : Program} (w w' : World) {ops : Array Oper} {rest : List Oper} {o : Oper} {a : Act} {Q : Exit → Act → World → Prop} (hgd : o.guard = none) (s x : Operand) (t u : TypeId)
    (ho : o.op = .call { callee := .builtin .copy, args := #[s, x], argTypes := #[t, u] }) (v sv xv : Value) (hs : a.eval s = sv) (hx : a.eval x = xv) (hr : (Builtin.copy_ #[t, u] o.type #[sv, xv]).run P w = .ok v w')
    (h : wpList P ops Q rest (a.put o.dst v) w') : wpList P ops Q (o :: rest) a w := by
  refine wpList_plain hgd fun K hK => ?_
  unfold Oper.wp execOp
  simp only [ho, resolve, invoke, builtin, Sem.run_bind, Sem.run_pure, Result.andThen_ok, List.map_toArray, List.map_cons, List.map_nil, hs, hx, hr]
  exact hK _ _ h
theorem wpOp_copyW {P : Program} {ops : Array Oper} {Q : Exit → Act → World → Prop} {i : Nat} {K : Act → World → Prop} {a : Act} {w w' : World} {o : Oper} (s x : Operand) (t u : TypeId) (v sv xv : Value) (hi : ops[i]? = some o) (hw : Region.wanted o (yielded ops a.tmps) = true)
    (ho : o.op = .call { callee := .builtin .copy, args := #[s, x], argTypes := #[t, u] }) (hs : a.eval s = sv) (hx : a.eval x = xv) (hr : (Builtin.copy_ #[t, u] o.type #[sv, xv]).run P w = .ok v w') (h : K (a.put o.dst v) w') : wpOp P ops Q i K a w := by
  unfold wpOp
  simp only [hi, hw, if_true]
  left
  unfold Oper.wp execOp
  simp only [ho, resolve, invoke, builtin, Sem.run_bind, Sem.run_pure, Result.andThen_ok, List.map_toArray, List.map_cons, List.map_nil, hs, hx, hr]
  exact h

/-- New numbers are handed back. -/
def NewIsW (zs : List Int) (w : World) (e : Ending) (w' : World) : Prop :=
  ∃ A c, e = .returned (.slice A zs.length c) ∧ OwnI 3 w' w.heap.size A c zs ∧ Below w.heap.size w w'

set_option maxRecDepth 100000 in
set_option maxHeartbeats 2000000 in
theorem repeat_posW (x : Int) (hx : Fit x) (n b c : Nat) (h1 : 1 ≤ n) (hn : n ≤ 1024) (w : World) (hb : b < w.heap.size) (hc : w.cell? ⟨b, 0, none⟩ = some (.int .i64 x)) :
    Calls Try.prog 27 #[.slice (some ⟨b, 0, none⟩) 1 c, .int .i64 n] w (NewIsW (List.replicate n x) w) := by
  have mk := mkIntsW n hn
  obtain ⟨z, hz⟩ : ∃ z, madeCells #[Value.int .i64 0] n = z := ⟨_, rfl⟩
  have hM := made_lieW w n x
  rw [hz] at mk hM
  have hB0 := (Below.refl w.heap.size w).alloc (Nat.le_refl _) (.cells z 3)
  have hcb : ∀ j, j < 1 → (w.alloc (.cells z 3)).cell? ⟨b, j, none⟩ = some (.int .i64 x) := fun j hj => by
    obtain rfl : j = 0 := by omega
    exact (hB0.cell (p := ⟨b, 0, none⟩) hb).trans hc
  obtain ⟨w1, hr1, hF1, c1, hw1⟩ := hM.copy b 1 c hcb n
  have hmin : Nat.min 1 n = 1 := Nat.min_eq_left h1
  rw [Nat.sub_zero, hmin] at hr1 hF1
  rw [Nat.zero_add] at hF1
  have hB1 : Below w.heap.size w w1 := by rw [hw1]; exact below_row hB0 (Nat.le_refl _) _
  have F1 := Lib.hid hF1
  have B1 := Lib.hid hB1
  have wn : IntKind.u64.wrap (n : Int) = n := by rw [IntKind.wrap_u64]; omega
  have wi : IntKind.i64.wrap (n : Int) = n := by rw [IntKind.wrap_i64]; omega
  clear hM hB0 hcb hF1 hw1 hB1 hc hz
  go_enter Try.func27, Try.ntmps27
  go_wp2_with first
    | (go_at_call 40; refine (mul_oneW n hn w).mono ?_; rintro e w' ⟨rfl, hw⟩; rw [hw])
    | (at_builtin; refine wpList_copyW _ _ rfl _ _ 22 22 rfl _ _ _ rfl rfl hr1 ?_)
  go_loopw [8] (fun t wr => ∃ k : Nat, t = .int .i64 k ∧ 1 ≤ k ∧ Hid (FlW wr w.heap.size n k x ∧ Below w.heap.size w wr)) (fun t _ => n - (intOf t).toNat)
  case atStart => exact ⟨1, rfl, Nat.le_refl _, Lib.hid ⟨F1.out, B1.out⟩⟩
  case round =>
    obtain ⟨k, rfl, hk1, HF⟩ := hrel
    have hkn : k ≤ n := HF.out.1.choose_spec.2.2.1
    by_cases hlt : k < n
    · go_wp2
      obtain ⟨hF, hB⟩ := HF.out
      have hFd : FlW wr.drew w.heap.size n k x := hF.drew
      obtain ⟨w2, hr2, hF2, c2, hw2⟩ := hFd.copy w.heap.size k n (fun j hj => hFd.cell hj) (n - k)
      obtain ⟨q, hq⟩ : ∃ q, Nat.min k (n - k) = q := ⟨_, rfl⟩
      have hq1 : 1 ≤ q := by rw [← hq]; exact Nat.le_min.2 ⟨hk1, by omega⟩
      rw [hq] at hr2 hF2
      have hq2 : k + q ≤ n := hF2.choose_spec.2.2.1
      have hB2 : Below w.heap.size w w2 := by rw [hw2]; exact below_row hB.drew (Nat.le_refl _) _
      have hwk : IntKind.i64.wrap ((k : Int) + (q : Int)) = (k : Int) + q := by rw [IntKind.wrap_i64]; omega
      have F2 : Hid (FlW w2 w.heap.size n (k + q) x ∧ Below w.heap.size w w2) := Lib.hid ⟨hF2, hB2⟩
      clear hF hB hFd hF2 hw2 hB2 hq
      have e1 : ((k : Int) ≤ (n : Int)) := by omega
      have e2 : ¬ (n - k = 0) := by omega
      have e3 : ¬ n = k := by omega
      refine wp_region_held (S := fun U => U = wr.drew ∨ U = w2) (by kernel_rfl) ?_
      change wpAnyH _ _ _ _ _ _ _ _ (World.drew _)
      refine wpAnyH_take (i := 0) (v := .int .i64 k) rfl (by kernel_rfl) (by kernel_rfl) (by kernel_rfl) (fun _ _ _ h => h) (.inl ⟨by rfl, fun U hU => by go_simp⟩) (.inl rfl) ?_
      refine wpAnyH_take (i := 1) (v := .slice (some ⟨w.heap.size, 0, none⟩) n n) rfl (by kernel_rfl) (by kernel_rfl) (by kernel_rfl) (fun _ _ _ h => h) (.inl ⟨by rfl, fun U hU => by go_simp⟩) (.inl rfl) ?_
      refine wpAnyH_take (i := 2) (v := .int .i64 k) rfl (by kernel_rfl) (by kernel_rfl) (by kernel_rfl) (fun _ _ _ h => h) (.inl ⟨by rfl, fun U hU => by go_simp⟩) (.inl rfl) ?_
      refine wpAnyH_take (i := 4) (v := .slice (some ⟨w.heap.size, 0, none⟩) n n) rfl (by kernel_rfl) (by kernel_rfl) (by kernel_rfl) (fun _ _ _ h => h) (.inl ⟨by rfl, fun U hU => by go_simp⟩) (.inl rfl) ?_
      refine wpAnyH_take (i := 5) (v := .int .i64 k) rfl (by kernel_rfl) (by kernel_rfl) (by kernel_rfl) (fun _ _ _ h => h) (.inl ⟨by rfl, fun U hU => by go_simp⟩) (.inl rfl) ?_
      refine wpAnyH_take (i := 3) (v := .slice (some ⟨w.heap.size, k, none⟩) (n - k) (n - k)) rfl (by kernel_rfl) (by kernel_rfl) (by kernel_rfl) (fun _ _ _ h => h) (.inl ⟨by rfl, fun U hU => by go_simp⟩) (.inl rfl) ?_
      refine wpAnyH_take (i := 6) (v := .slice (some ⟨w.heap.size, 0, none⟩) k n) rfl (by kernel_rfl) (by kernel_rfl) (by kernel_rfl) (fun _ _ _ h => h) (.inl ⟨by rfl, fun U hU => by go_simp⟩) (.inl rfl) ?_
      refine wpAnyH_all (rs := [7]) (by kernel_rfl) (by simp) ?_
      intro i hi
      simp only [List.mem_cons, List.not_mem_nil, or_false] at hi
      subst hi
      refine wpOp_copyW (.tmp 41) (.tmp 44) 22 22 (.int .i64 q) (.slice (some ⟨w.heap.size, k, none⟩) (n - k) (n - k)) (.slice (some ⟨w.heap.size, 0, none⟩) k n) rfl (by kernel_rfl) rfl (by kernel_rfl) (by kernel_rfl) hr2 ?_
      refine ⟨.inr rfl, ?_⟩
      refine wpAnyH_take (i := 8) (v := .int .i64 ((k : Int) + q)) rfl (by kernel_rfl) (by kernel_rfl) (by kernel_rfl) (fun _ _ _ h => h) (.inl ⟨by rfl, fun U hU => by go_simp⟩) (.inr rfl) ?_
      refine wpAnyH_all (rs := [9]) (by kernel_rfl) (by simp) ?_
      intro i hi
      simp only [List.mem_cons, List.not_mem_nil, or_false] at hi
      subst hi
      unfold wpOp
      go_simp
      left
      refine ⟨by kernel_rfl, ?_⟩
      go_wp2
      go_roundw
      case rel => exact ⟨k + q, by go_num, by omega, F2⟩
      case measure => simp [intOf]; omega
    · obtain rfl : k = n := by omega
      go_wp2
      go_ret
      exact ⟨_, k, by simp, HF.out.1.own (Nat.le_refl _) hx hn, HF.out.2⟩

theorem made_zeroW (w : World) (n : Nat) : FlW (w.alloc (.cells (madeCells #[.int .i64 0] n) 3)) w.heap.size n n 0 :=
  ⟨_, Bk.new _ _ _, by rw [← Array.length_toList, toList_madeCells_one]; simp, Nat.le_refl _, fun j hj => by
    rw [← Array.getElem?_toList, toList_madeCells_one, List.getElem?_replicate, if_pos hj]⟩
theorem newWo_ok {n : Nat} (h1 : 1 ≤ n) (h2 : n ≤ 64) : newWo (n : Int) = (List.replicate n 0, 0) := by
  unfold newWo
  rw [if_pos ⟨by omega, by omega⟩, Int.toNat_natCast]
theorem newWo_no {n : Int} (h : ¬ (1 ≤ n ∧ n ≤ 64)) : newWo n = ([], 1) := if_neg h
def NewW (r : List Int × Int) (w : World) (e : Ending) (w' : World) : Prop := ErrW (r.1, [], r.2) w e w'
set_option maxRecDepth 100000 in
set_option maxHeartbeats 2000000 in
theorem new_wo (n : Int) (w : World) :
    Calls Try.prog 9 #[.int .i64 n] w (NewW (newWo n) w) := by
  by_cases g0 : n < 1
  · rw [newWo_no (by omega)]
    replace g0 := decide_eq_true g0
    obtain ⟨kb0, hb0⟩ := lay1 w #[.slice none 0 0, .slice none 0 0] 24
    obtain ⟨V, hV⟩ : ∃ V, w.alloc (.cells #[.slice none 0 0, .slice none 0 0] 24) = V := ⟨_, rfl⟩
    rw [hV] at hb0 kb0
    have HV := Lib.hid hV
    have BB := Lib.hid hb0
    have KR := Lib.hid kb0
    have HBR : Hid (w.heap.size ≤ w.heap.size) := Lib.hid (by omega)
    clear hV hb0 kb0
    go_enter Try.func9, Try.ntmps9
    go_upto_region 1 with fail
    rw [HV.out]
    clear HV
    obtain ⟨qR_0, qR_1⟩ := KR.out.c2w
    have lR := KR.out.lt
    obtain ⟨fR_0, fR_1⟩ := KR.out.f2w
    have B_R := Lib.hid (below_set2w (g := w.heap.size) BB.out HBR.out (.slice none 0 0) (.slice none 0 0))
    have S_R := Lib.hid (bk_set2w KR.out (.slice none 0 0) (.slice none 0 0))
    have HBF := Lib.hid (B_R.out)
    unfold set2w at HBF
    go_wp2
    obtain ⟨rR_0, rR_1⟩ := (S_R.out).c2w
    unfold set2w at rR_0 rR_1
    exact bodyPost_ret (v := .tuple #[.agg #[.slice none 0 0, .slice none 0 0], .int .i64 1]) (by simp [results, Try.results9, go_sem, rR_0, rR_1]) rfl (errW_none HBF.out)
  · by_cases g1 : 64 < n
    · rw [newWo_no (by omega)]
      replace g0 := decide_eq_false g0
      replace g1 := decide_eq_true g1
      obtain ⟨kb0, hb0⟩ := lay1 w #[.slice none 0 0, .slice none 0 0] 24
      obtain ⟨V, hV⟩ : ∃ V, w.alloc (.cells #[.slice none 0 0, .slice none 0 0] 24) = V := ⟨_, rfl⟩
      rw [hV] at hb0 kb0
      have HV := Lib.hid hV
      have BB := Lib.hid hb0
      have KR := Lib.hid kb0
      have HBR : Hid (w.heap.size ≤ w.heap.size) := Lib.hid (by omega)
      clear hV hb0 kb0
      go_enter Try.func9, Try.ntmps9
      go_upto_region 1 with fail
      rw [HV.out]
      clear HV
      obtain ⟨qR_0, qR_1⟩ := KR.out.c2w
      have lR := KR.out.lt
      obtain ⟨fR_0, fR_1⟩ := KR.out.f2w
      have B_R := Lib.hid (below_set2w (g := w.heap.size) BB.out HBR.out (.slice none 0 0) (.slice none 0 0))
      have S_R := Lib.hid (bk_set2w KR.out (.slice none 0 0) (.slice none 0 0))
      have HBF := Lib.hid (B_R.out)
      unfold set2w at HBF
      go_wp2
      obtain ⟨rR_0, rR_1⟩ := (S_R.out).c2w
      unfold set2w at rR_0 rR_1
      exact bodyPost_ret (v := .tuple #[.agg #[.slice none 0 0, .slice none 0 0], .int .i64 1]) (by simp [results, Try.results9, go_sem, rR_0, rR_1]) rfl (errW_none HBF.out)
    · obtain ⟨n, rfl⟩ : ∃ k : Nat, n = (k : Int) := ⟨n.toNat, by omega⟩
      have hn1 : 1 ≤ n := by omega
      have hn64 : n ≤ 64 := by omega
      rw [newWo_ok hn1 hn64]
      replace g0 := decide_eq_false g0
      replace g1 := decide_eq_false g1
      obtain ⟨kb0, hb0⟩ := lay1 w #[.slice none 0 0, .slice none 0 0] 24
      obtain ⟨V, hV⟩ : ∃ V, w.alloc (.cells #[.slice none 0 0, .slice none 0 0] 24) = V := ⟨_, rfl⟩
      rw [hV] at hb0 kb0
      have HV := Lib.hid hV
      have BB := Lib.hid hb0
      have KR := Lib.hid kb0
      have HBR : Hid (w.heap.size ≤ w.heap.size) := Lib.hid (by omega)
      clear hV hb0 kb0
      go_enter Try.func9, Try.ntmps9
      go_upto_region 1 with fail
      rw [HV.out]
      clear HV
      have HH := Lib.hid fun (U : World) (hb : V.heap.size < U.heap.size) hc => repeat_posW 0 fit0 n V.heap.size 1 hn1 (by omega) U hb hc
      have k6 := Bk.new V 3 #[.int .i64 0]
      have ba := (Below.refl V.heap.size V).alloc (Nat.le_refl _) (.cells #[.int .i64 0] 3)
      have HQ := Lib.hid (HH.out _ k6.lt k6.one)
      clear HH k6
      replace KR := Lib.hid (KR.out.below ba KR.out.lt)
      replace BB := Lib.hid (below3 BB.out ba)
      clear ba
      have HRL : Hid (w.heap.size + 1 ≤ (V.alloc (.cells #[.int .i64 0] 3)).heap.size) := Lib.hid (by have := KR.out.lt; omega)
      obtain ⟨qR_0, qR_1⟩ := KR.out.c2w
      have lR := KR.out.lt
      go_wp2_with fail
      refine HQ.out.mono ?_
      rintro e U1 ⟨A1, c1, he, ho, b1⟩
      rw [List.length_replicate] at he
      subst he
      clear qR_0 qR_1 lR
      have LR_c : Hid (w.heap.size < (V.alloc (.cells #[.int .i64 0] 3)).heap.size) := Lib.hid (by have := HRL.out; omega)
      have HBBc : Hid (w.heap.size ≤ (V.alloc (.cells #[.int .i64 0] 3)).heap.size) := Lib.hid (by have := HRL.out; omega)
      have Rc : Hid (OwnW U1 (V.alloc (.cells #[.int .i64 0] 3)).heap.size A1 c1 none 0 (List.replicate n 0) []) := Lib.hid (OwnW.newS ho (OwnI.nil_ _ U1 U1.heap.size) (by have := b1.size; omega) fun k e => (ho.blkW_lt k e).2)
      clear ho
      replace KR := Lib.hid (KR.out.below b1 KR.out.lt)
      replace BB := Lib.hid (below3 BB.out b1)
      clear b1
      obtain ⟨qR_0, qR_1⟩ := KR.out.c2w
      have lR := KR.out.lt
      obtain ⟨fR_0, fR_1⟩ := KR.out.f2w
      have B_R := Lib.hid (below_set2w (g := w.heap.size) BB.out HBR.out (.slice A1 n c1) (.slice none 0 0))
      have S_R := Lib.hid (bk_set2w KR.out (.slice A1 n c1) (.slice none 0 0))
      have T_R := Lib.hid (ownW_set2 (g := w.heap.size) Rc.out LR_c.out (.slice A1 n c1) (.slice none 0 0))
      have HBF := Lib.hid (B_R.out)
      have RR := Lib.hid (T_R.out)
      unfold set2w at HBF RR
      go_wp2
      obtain ⟨rR_0, rR_1⟩ := (S_R.out).c2w
      unfold set2w at rR_0 rR_1
      exact bodyPost_ret (v := .tuple #[.agg #[.slice A1 n c1, .slice none 0 0], .int .i64 0]) (by simp [results, Try.results9, go_sem, rR_0, rR_1]) rfl (⟨A1, c1, none, 0, by simp, RR.out.base_ HBBc.out, HBF.out⟩)

set_option maxRecDepth 100000 in
set_option maxHeartbeats 2000000 in
theorem rnew_wo (n : Int) (w : World) :
    Calls Try.prog 10 #[.int .i64 n] w (NewW (newWo n) w) := by
  by_cases g0 : n < 1
  · rw [newWo_no (by omega)]
    replace g0 := decide_eq_true g0
    obtain ⟨kb0, hb0⟩ := lay1 w #[.slice none 0 0, .slice none 0 0] 24
    obtain ⟨V, hV⟩ : ∃ V, w.alloc (.cells #[.slice none 0 0, .slice none 0 0] 24) = V := ⟨_, rfl⟩
    rw [hV] at hb0 kb0
    have HV := Lib.hid hV
    have BB := Lib.hid hb0
    have KR := Lib.hid kb0
    have HBR : Hid (w.heap.size ≤ w.heap.size) := Lib.hid (by omega)
    clear hV hb0 kb0
    go_enter Try.func10, Try.ntmps10
    go_upto_region 1 with fail
    rw [HV.out]
    clear HV
    obtain ⟨qR_0, qR_1⟩ := KR.out.c2w
    have lR := KR.out.lt
    obtain ⟨fR_0, fR_1⟩ := KR.out.f2w
    have B_R := Lib.hid (below_set2w (g := w.heap.size) BB.out HBR.out (.slice none 0 0) (.slice none 0 0))
    have S_R := Lib.hid (bk_set2w KR.out (.slice none 0 0) (.slice none 0 0))
    have HBF := Lib.hid (B_R.out)
    unfold set2w at HBF
    go_wp2
    obtain ⟨rR_0, rR_1⟩ := (S_R.out).c2w
    unfold set2w at rR_0 rR_1
    exact bodyPost_ret (v := .tuple #[.agg #[.slice none 0 0, .slice none 0 0], .int .i64 1]) (by simp [results, Try.results10, go_sem, rR_0, rR_1]) rfl (errW_none HBF.out)
  · by_cases g1 : 64 < n
    · rw [newWo_no (by omega)]
      replace g0 := decide_eq_false g0
      replace g1 := decide_eq_true g1
      obtain ⟨kb0, hb0⟩ := lay1 w #[.slice none 0 0, .slice none 0 0] 24
      obtain ⟨V, hV⟩ : ∃ V, w.alloc (.cells #[.slice none 0 0, .slice none 0 0] 24) = V := ⟨_, rfl⟩
      rw [hV] at hb0 kb0
      have HV := Lib.hid hV
      have BB := Lib.hid hb0
      have KR := Lib.hid kb0
      have HBR : Hid (w.heap.size ≤ w.heap.size) := Lib.hid (by omega)
      clear hV hb0 kb0
      go_enter Try.func10, Try.ntmps10
      go_upto_region 1 with fail
      rw [HV.out]
      clear HV
      obtain ⟨qR_0, qR_1⟩ := KR.out.c2w
      have lR := KR.out.lt
      obtain ⟨fR_0, fR_1⟩ := KR.out.f2w
      have B_R := Lib.hid (below_set2w (g := w.heap.size) BB.out HBR.out (.slice none 0 0) (.slice none 0 0))
      have S_R := Lib.hid (bk_set2w KR.out (.slice none 0 0) (.slice none 0 0))
      have HBF := Lib.hid (B_R.out)
      unfold set2w at HBF
      go_wp2
      obtain ⟨rR_0, rR_1⟩ := (S_R.out).c2w
      unfold set2w at rR_0 rR_1
      exact bodyPost_ret (v := .tuple #[.agg #[.slice none 0 0, .slice none 0 0], .int .i64 1]) (by simp [results, Try.results10, go_sem, rR_0, rR_1]) rfl (errW_none HBF.out)
    · obtain ⟨n, rfl⟩ : ∃ k : Nat, n = (k : Int) := ⟨n.toNat, by omega⟩
      have hn1 : 1 ≤ n := by omega
      have hn64 : n ≤ 64 := by omega
      rw [newWo_ok hn1 hn64]
      replace g0 := decide_eq_false g0
      replace g1 := decide_eq_false g1
      obtain ⟨kb0, hb0⟩ := lay1 w #[.slice none 0 0, .slice none 0 0] 24
      obtain ⟨V, hV⟩ : ∃ V, w.alloc (.cells #[.slice none 0 0, .slice none 0 0] 24) = V := ⟨_, rfl⟩
      rw [hV] at hb0 kb0
      have HV := Lib.hid hV
      have BB := Lib.hid hb0
      have KR := Lib.hid kb0
      have HBR : Hid (w.heap.size ≤ w.heap.size) := Lib.hid (by omega)
      clear hV hb0 kb0
      have mk := mkIntsW n (by omega)
      obtain ⟨z, hz⟩ : ∃ z, madeCells #[Value.int .i64 0] n = z := ⟨_, rfl⟩
      have hM := made_zeroW V n
      rw [hz] at mk hM
      have HO := Lib.hid (hM.own (base := V.heap.size) (Nat.le_refl _) fit0 (by omega))
      have ba := (Below.refl V.heap.size V).alloc (Nat.le_refl _) (.cells z 3)
      have LR_c : Hid (w.heap.size < V.heap.size) := Lib.hid KR.out.lt
      have HBBc : Hid (w.heap.size ≤ V.heap.size) := Lib.hid BB.out.size
      have Rc : Hid (OwnW (V.alloc (.cells z 3)) V.heap.size (some ⟨V.heap.size, 0, none⟩) n none 0 (List.replicate n 0) []) := Lib.hid (OwnW.newS HO.out (OwnI.nil_ _ _ (V.alloc (.cells z 3)).heap.size) ba.size fun k e => (HO.out.blkW_lt k e).2)
      clear hM hz HO
      replace KR := Lib.hid (KR.out.below ba KR.out.lt)
      replace BB := Lib.hid (below3 BB.out ba)
      clear ba
      go_enter Try.func10, Try.ntmps10
      go_upto_region 1 with fail
      rw [HV.out]
      clear HV
      obtain ⟨qR_0, qR_1⟩ := KR.out.c2w
      have lR := KR.out.lt
      obtain ⟨fR_0, fR_1⟩ := KR.out.f2w
      have B_R := Lib.hid (below_set2w (g := w.heap.size) BB.out HBR.out (.slice (some ⟨V.heap.size, 0, none⟩) n n) (.slice none 0 0))
      have S_R := Lib.hid (bk_set2w KR.out (.slice (some ⟨V.heap.size, 0, none⟩) n n) (.slice none 0 0))
      have T_R := Lib.hid (ownW_set2 (g := w.heap.size) Rc.out LR_c.out (.slice (some ⟨V.heap.size, 0, none⟩) n n) (.slice none 0 0))
      have HBF := Lib.hid (B_R.out)
      have RR := Lib.hid (T_R.out)
      unfold set2w at HBF RR
      go_wp2
      obtain ⟨rR_0, rR_1⟩ := (S_R.out).c2w
      unfold set2w at rR_0 rR_1
      exact bodyPost_ret (v := .tuple #[.agg #[.slice (some ⟨V.heap.size, 0, none⟩) n n, .slice none 0 0], .int .i64 0]) (by simp [results, Try.results10, go_sem, rR_0, rR_1]) rfl (⟨some ⟨V.heap.size, 0, none⟩, n, none, 0, by simp, RR.out.base_ HBBc.out, HBF.out⟩)

end Go.Proofs.Ytmndkofdoclihaa

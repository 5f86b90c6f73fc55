/-
  Layer 17, the program: Spin, Found, Announce, Park, Wake.
-/
import Derived.Test.YtmndkofdoclihaaWog
namespace Go.Proofs.Ytmndkofdoclihaa
open Go.RowKit

theorem intsN_wo {w : World} {g : Nat} {t : TypeId} {l : List Int} (h : BkI w g t l) (hf : ∀ x ∈ l, Fit x) (hl : l.length ≤ 9) : Ints w (some ⟨g, 0, none⟩) l.length l :=
  ⟨rfl, by omega, hf, fun _ => ⟨g, 0, rfl, h.lt, fun j hj => by rw [Nat.zero_add]; exact h.at_ hj⟩⟩
theorem ints1_wo (w : World) (E : TypeId) {x : Int} (hx : Fit x) : Ints (w.alloc (.cells #[.int .i64 x] E)) (some ⟨w.heap.size, 0, none⟩) 1 [x] := ints1 w E hx
theorem ints2_wo (w : World) (E : TypeId) {x y : Int} (hx : Fit x) (hy : Fit y) : Ints (w.alloc (.cells #[.int .i64 x, .int .i64 y] E)) (some ⟨w.heap.size, 0, none⟩) 2 [x, y] :=
  intsN_wo (l := [x, y]) (Bk.new w E #[.int .i64 x, .int .i64 y]) (fun z hz => by simp at hz; rcases hz with rfl | rfl <;> assumption) (by simp)
theorem ints3_wo (w : World) (E : TypeId) {x y z : Int} (hx : Fit x) (hy : Fit y) (hz : Fit z) : Ints (w.alloc (.cells #[.int .i64 x, .int .i64 y, .int .i64 z] E)) (some ⟨w.heap.size, 0, none⟩) 3 [x, y, z] :=
  intsN_wo (l := [x, y, z]) (Bk.new w E #[.int .i64 x, .int .i64 y, .int .i64 z]) (fun u hu => by simp at hu; rcases hu with rfl | rfl | rfl <;> assumption) (by simp)
theorem in_at {is st : List Int} {i : Int} (h : inWo is st i) : 0 ≤ nth is i.toNat ∧ nth is i.toNat ≤ 3 := fours_at h.1.2.1 (by have := h.2; omega)
theorem found_chg (is st : List Int) (i : Int) : chgWo is st i 0 [0, 1, 2] = foundWo is st i := by
  unfold foundWo
  by_cases h : inWo is st i
  · have h4 := in_at h
    rw [if_pos h]
    by_cases h3 : nth is i.toNat = 3
    · rw [if_pos h3, chg_9 h (by rw [h3]; decide)]
    · rw [if_neg h3, chg_out h (by simp; omega) (by decide)]
  · rw [if_neg h, chg_1 h]
theorem ann_chg (is st : List Int) (i : Int) : chgWo is st i 2 [0, 1] = annWo is st i := by
  unfold annWo
  by_cases h : inWo is st i
  · have h4 := in_at h
    rw [if_pos h]
    by_cases h3 : nth is i.toNat ≤ 1
    · rw [if_pos h3, chg_app h (by simp; omega) (by decide) (by omega)]
    · rw [if_neg h3, chg_9 h (by simp; omega)]
  · rw [if_neg h, chg_1 h]
theorem spin_chg {is st : List Int} {i : Int} (h : inWo is st i) (h0 : nth is i.toNat = 0) : chgWo is st i 1 [0] = (is.set i.toNat 1, st, 0) := by
  rw [chg_out h (by simp; exact h0) (by decide), but_noneBt (not_in h.1 (by omega))]
theorem spin_no {is st : List Int} {i : Int} (h : ¬ (inWo is st i ∧ nth is i.toNat = 0)) : ∃ er, chgWo is st i 1 [0] = ([], [], er) ∧ spinWo is st i = (false, [], [], er) ∧ (er != 0) = true ∧ Fit er := by
  unfold spinWo
  by_cases hi : inWo is st i
  · rw [if_pos hi, if_neg (fun q => h ⟨hi, q⟩), chg_9 hi (by simp; exact fun q => h ⟨hi, q⟩)]
    exact ⟨9, rfl, rfl, rfl, by unfold Fit; omega⟩
  · rw [if_neg hi, chg_1 hi]
    exact ⟨1, rfl, rfl, rfl, by unfold Fit; omega⟩
theorem park_chg {is st : List Int} {i : Int} (h : inWo is st i) (h0 : nth is i.toNat = 2) : chgWo is st i 3 [2] = (is.set i.toNat 3, st, 0) := chg_same h (by simp; exact h0) (by decide) (.inl h0)
theorem park_no {is st : List Int} {i : Int} (h : ¬ (inWo is st i ∧ nth is i.toNat = 2)) : ∃ er, chgWo is st i 3 [2] = ([], [], er) ∧ parkWo is st i = ([], [], er) ∧ (er != 0) = true ∧ Fit er := by
  unfold parkWo
  by_cases hi : inWo is st i
  · rw [if_pos hi, if_neg (fun q => h ⟨hi, q.1⟩), chg_9 hi (by simp; exact fun q => h ⟨hi, q⟩)]
    exact ⟨9, rfl, rfl, rfl, by unfold Fit; omega⟩
  · rw [if_neg hi, chg_1 hi]
    exact ⟨1, rfl, rfl, rfl, by unfold Fit; omega⟩
theorem wake_chg {is st : List Int} (h : okWo is st) (hn : st.length ≠ 0) : chgWo is st (nth st (st.length - 1)) 0 [2, 3] = (is.set (nth st (st.length - 1)).toNat 0, butBt st (nth st (st.length - 1)), 0) := by
  have := last_in h hn
  have h4 := in_at this.1
  exact chg_out this.1 (by simp; omega) (by decide)
theorem set_fours {is : List Int} (h : fours is) (k : Nat) {x : Int} (hx : 0 ≤ x ∧ x ≤ 3) : fours (is.set k x) := fun y hy => by
  rcases List.mem_or_eq_of_mem_set hy with q | rfl
  · exact h y q
  · exact hx

set_option maxHeartbeats 4000000 in
theorem found_wo (A B : Option Addr) (n a m b : Nat) (is st : List Int) (i : Int) (w : World) (hi : Ints w A n is) (hs : Ints w B m st) :
    Calls Try.prog 13 #[.agg #[.slice A n a, .slice B m b], .int .i64 i] w (ErrW (foundWo is st i) w) := by
  rw [← found_chg]
  obtain ⟨⟨i1, s1, er⟩, hc⟩ : ∃ r, chgWo is st i 0 [0, 1, 2] = r := ⟨_, rfl⟩
  have HC := Lib.hid hc
  rw [hc]
  clear hc
  obtain ⟨kb0, kb1, hb0⟩ := lies2 w #[.slice A n a, .slice B m b] #[.slice none 0 0, .slice none 0 0] 24 24
  obtain ⟨V, hV⟩ : ∃ V, (w.alloc (.cells #[.slice A n a, .slice B m b] 24)).alloc (.cells #[.slice none 0 0, .slice none 0 0] 24) = V := ⟨_, rfl⟩
  rw [hV] at hb0 kb0 kb1
  have HV := Lib.hid hV
  have BB := Lib.hid hb0
  have KD := Lib.hid kb0
  have HBD : Hid (w.heap.size ≤ w.heap.size) := Lib.hid (by omega)
  have KR := Lib.hid kb1
  have HBR : Hid (w.heap.size ≤ (w.heap.size + 1)) := Lib.hid (by omega)
  have OD_R : Hid (w.heap.size < (w.heap.size + 1)) := Lib.hid (by omega)
  clear hV hb0 kb0 kb1
  go_enter Try.func13, Try.ntmps13
  go_upto_region 1 with fail
  rw [HV.out]
  clear HV
  obtain ⟨qD_0, qD_1⟩ := KD.out.c2w
  have lD := KD.out.lt
  have ba := (Below.refl V.heap.size V).alloc (Nat.le_refl _) (.cells #[.int .i64 0, .int .i64 1, .int .i64 2] 3)
  have HLT : Hid (Ints (V.alloc (.cells #[.int .i64 0, .int .i64 1, .int .i64 2] 3)) (some ⟨V.heap.size, 0, none⟩) 3 [0, 1, 2]) := Lib.hid (ints3_wo V 3 (by unfold Fit; omega) (by unfold Fit; omega) (by unfold Fit; omega))
  replace KD := Lib.hid (KD.out.below ba KD.out.lt)
  replace KR := Lib.hid (KR.out.below ba KR.out.lt)
  replace BB := Lib.hid (below3 BB.out ba)
  clear ba
  go_wp2_with fail
  refine (change_wo A B (some ⟨V.heap.size, 0, none⟩) n a m b 3 3 is st [0, 1, 2] i 0 _ (hi.below BB.out) (hs.below BB.out) HLT.out (by omega)).mono ?_
  rw [HC.out]
  try dsimp only
  rintro e U1 ⟨Ac, ac, Bc, bc, he, ow, bU1⟩
  try dsimp only at he ow
  subst he
  clear qD_0 qD_1 lD
  have LD_c : Hid (w.heap.size < (V.alloc (.cells #[.int .i64 0, .int .i64 1, .int .i64 2] 3)).heap.size) := Lib.hid KD.out.lt
  have LR_c : Hid ((w.heap.size + 1) < (V.alloc (.cells #[.int .i64 0, .int .i64 1, .int .i64 2] 3)).heap.size) := Lib.hid KR.out.lt
  have HBBc : Hid (w.heap.size ≤ (V.alloc (.cells #[.int .i64 0, .int .i64 1, .int .i64 2] 3)).heap.size) := Lib.hid BB.out.size
  have Rc := Lib.hid ow
  clear ow
  replace KD := Lib.hid (KD.out.below bU1 KD.out.lt)
  replace KR := Lib.hid (KR.out.below bU1 KR.out.lt)
  replace BB := Lib.hid (below3 BB.out bU1)
  clear bU1
  clear HLT
  obtain ⟨kt, km, ba⟩ := lies2 U1 #[.slice Ac i1.length ac, .slice Bc s1.length bc] #[.int .i64 (manyWo i1 0 : Int), .int .i64 (manyWo i1 1 : Int), .int .i64 (manyWo i1 2 : Int), .int .i64 (manyWo i1 3 : Int)] 24 46
  have oD := KD.out.lt
  have oR := KR.out.lt
  have hgb := BB.out.size
  replace KD := Lib.hid (KD.out.below ba KD.out.lt)
  replace KR := Lib.hid (KR.out.below ba KR.out.lt)
  replace Rc := Lib.hid (Rc.out.below ba)
  replace BB := Lib.hid (below3 BB.out ba)
  clear ba
  obtain ⟨W2, hW⟩ : ∃ W, (U1.alloc (.cells #[.slice Ac i1.length ac, .slice Bc s1.length bc] 24)).alloc (.cells #[.int .i64 (manyWo i1 0 : Int), .int .i64 (manyWo i1 1 : Int), .int .i64 (manyWo i1 2 : Int), .int .i64 (manyWo i1 3 : Int)] 46) = W := ⟨_, rfl⟩
  obtain ⟨gN, hg⟩ : ∃ g, U1.heap.size = g := ⟨_, rfl⟩
  rw [hW] at kt km BB KD KR Rc
  rw [hg] at kt km hgb oD oR
  have HW := Lib.hid hW
  have HG := Lib.hid hg
  have KN := Lib.hid kt
  have KT := Lib.hid km
  have HBN := Lib.hid hgb
  have HBT : Hid (w.heap.size ≤ gN + 1) := Lib.hid (by omega)
  have OD_N := Lib.hid oD
  have OD_T := Lib.hid (Nat.lt_succ_of_lt oD)
  have OR_N := Lib.hid oR
  have OR_T := Lib.hid (Nat.lt_succ_of_lt oR)
  have ON_T : Hid (gN < gN + 1) := Lib.hid (Nat.lt_succ_self _)
  clear hW hg kt km hgb oD oR
  go_upto_region 2 with fail
  rw [HW.out]
  try rw [HG.out]
  clear HW HG
  obtain ⟨qN_0, qN_1⟩ := KN.out.c2w
  have lN := KN.out.lt
  obtain ⟨qR_0, qR_1⟩ := KR.out.c2w
  have lR := KR.out.lt
  obtain ⟨fR_0, fR_1⟩ := KR.out.f2w
  have B_R := Lib.hid (below_set2w (g := (w.heap.size + 1)) BB.out HBR.out (.slice Ac i1.length ac) (.slice Bc s1.length bc))
  have S_R := Lib.hid (bk_set2w KR.out (.slice Ac i1.length ac) (.slice Bc s1.length bc))
  have T_R := Lib.hid (ownW_set2 (g := (w.heap.size + 1)) Rc.out LR_c.out (.slice Ac i1.length ac) (.slice Bc s1.length bc))
  have HBF := Lib.hid (B_R.out)
  have RR := Lib.hid (T_R.out)
  unfold set2w at HBF RR
  go_wp2
  obtain ⟨rR_0, rR_1⟩ := (S_R.out).c2w
  unfold set2w at rR_0 rR_1
  exact bodyPost_ret (v := .tuple #[.agg #[.slice Ac i1.length ac, .slice Bc s1.length bc], .int .i64 er]) (by simp [results, Try.results13, go_sem, rR_0, rR_1]) rfl (⟨Ac, ac, Bc, bc, by simp, RR.out.base_ HBBc.out, HBF.out⟩)

set_option maxHeartbeats 4000000 in
theorem ann_wo (A B : Option Addr) (n a m b : Nat) (is st : List Int) (i : Int) (w : World) (hi : Ints w A n is) (hs : Ints w B m st) :
    Calls Try.prog 15 #[.agg #[.slice A n a, .slice B m b], .int .i64 i] w (ErrW (annWo is st i) w) := by
  rw [← ann_chg]
  obtain ⟨⟨i1, s1, er⟩, hc⟩ : ∃ r, chgWo is st i 2 [0, 1] = r := ⟨_, rfl⟩
  have HC := Lib.hid hc
  rw [hc]
  clear hc
  obtain ⟨kb0, kb1, hb0⟩ := lies2 w #[.slice A n a, .slice B m b] #[.slice none 0 0, .slice none 0 0] 24 24
  obtain ⟨V, hV⟩ : ∃ V, (w.alloc (.cells #[.slice A n a, .slice B m b] 24)).alloc (.cells #[.slice none 0 0, .slice none 0 0] 24) = V := ⟨_, rfl⟩
  rw [hV] at hb0 kb0 kb1
  have HV := Lib.hid hV
  have BB := Lib.hid hb0
  have KD := Lib.hid kb0
  have HBD : Hid (w.heap.size ≤ w.heap.size) := Lib.hid (by omega)
  have KR := Lib.hid kb1
  have HBR : Hid (w.heap.size ≤ (w.heap.size + 1)) := Lib.hid (by omega)
  have OD_R : Hid (w.heap.size < (w.heap.size + 1)) := Lib.hid (by omega)
  clear hV hb0 kb0 kb1
  go_enter Try.func15, Try.ntmps15
  go_upto_region 1 with fail
  rw [HV.out]
  clear HV
  obtain ⟨qD_0, qD_1⟩ := KD.out.c2w
  have lD := KD.out.lt
  have ba := (Below.refl V.heap.size V).alloc (Nat.le_refl _) (.cells #[.int .i64 0, .int .i64 1] 3)
  have HLT : Hid (Ints (V.alloc (.cells #[.int .i64 0, .int .i64 1] 3)) (some ⟨V.heap.size, 0, none⟩) 2 [0, 1]) := Lib.hid (ints2_wo V 3 (by unfold Fit; omega) (by unfold Fit; omega))
  replace KD := Lib.hid (KD.out.below ba KD.out.lt)
  replace KR := Lib.hid (KR.out.below ba KR.out.lt)
  replace BB := Lib.hid (below3 BB.out ba)
  clear ba
  go_wp2_with fail
  refine (change_wo A B (some ⟨V.heap.size, 0, none⟩) n a m b 2 2 is st [0, 1] i 2 _ (hi.below BB.out) (hs.below BB.out) HLT.out (by omega)).mono ?_
  rw [HC.out]
  try dsimp only
  rintro e U1 ⟨Ac, ac, Bc, bc, he, ow, bU1⟩
  try dsimp only at he ow
  subst he
  clear qD_0 qD_1 lD
  have LD_c : Hid (w.heap.size < (V.alloc (.cells #[.int .i64 0, .int .i64 1] 3)).heap.size) := Lib.hid KD.out.lt
  have LR_c : Hid ((w.heap.size + 1) < (V.alloc (.cells #[.int .i64 0, .int .i64 1] 3)).heap.size) := Lib.hid KR.out.lt
  have HBBc : Hid (w.heap.size ≤ (V.alloc (.cells #[.int .i64 0, .int .i64 1] 3)).heap.size) := Lib.hid BB.out.size
  have Rc := Lib.hid ow
  clear ow
  replace KD := Lib.hid (KD.out.below bU1 KD.out.lt)
  replace KR := Lib.hid (KR.out.below bU1 KR.out.lt)
  replace BB := Lib.hid (below3 BB.out bU1)
  clear bU1
  clear HLT
  obtain ⟨kt, km, ba⟩ := lies2 U1 #[.slice Ac i1.length ac, .slice Bc s1.length bc] #[.int .i64 (manyWo i1 0 : Int), .int .i64 (manyWo i1 1 : Int), .int .i64 (manyWo i1 2 : Int), .int .i64 (manyWo i1 3 : Int)] 24 46
  have oD := KD.out.lt
  have oR := KR.out.lt
  have hgb := BB.out.size
  replace KD := Lib.hid (KD.out.below ba KD.out.lt)
  replace KR := Lib.hid (KR.out.below ba KR.out.lt)
  replace Rc := Lib.hid (Rc.out.below ba)
  replace BB := Lib.hid (below3 BB.out ba)
  clear ba
  obtain ⟨W2, hW⟩ : ∃ W, (U1.alloc (.cells #[.slice Ac i1.length ac, .slice Bc s1.length bc] 24)).alloc (.cells #[.int .i64 (manyWo i1 0 : Int), .int .i64 (manyWo i1 1 : Int), .int .i64 (manyWo i1 2 : Int), .int .i64 (manyWo i1 3 : Int)] 46) = W := ⟨_, rfl⟩
  obtain ⟨gN, hg⟩ : ∃ g, U1.heap.size = g := ⟨_, rfl⟩
  rw [hW] at kt km BB KD KR Rc
  rw [hg] at kt km hgb oD oR
  have HW := Lib.hid hW
  have HG := Lib.hid hg
  have KN := Lib.hid kt
  have KT := Lib.hid km
  have HBN := Lib.hid hgb
  have HBT : Hid (w.heap.size ≤ gN + 1) := Lib.hid (by omega)
  have OD_N := Lib.hid oD
  have OD_T := Lib.hid (Nat.lt_succ_of_lt oD)
  have OR_N := Lib.hid oR
  have OR_T := Lib.hid (Nat.lt_succ_of_lt oR)
  have ON_T : Hid (gN < gN + 1) := Lib.hid (Nat.lt_succ_self _)
  clear hW hg kt km hgb oD oR
  go_upto_region 2 with fail
  rw [HW.out]
  try rw [HG.out]
  clear HW HG
  obtain ⟨qN_0, qN_1⟩ := KN.out.c2w
  have lN := KN.out.lt
  obtain ⟨qR_0, qR_1⟩ := KR.out.c2w
  have lR := KR.out.lt
  obtain ⟨fR_0, fR_1⟩ := KR.out.f2w
  have B_R := Lib.hid (below_set2w (g := (w.heap.size + 1)) BB.out HBR.out (.slice Ac i1.length ac) (.slice Bc s1.length bc))
  have S_R := Lib.hid (bk_set2w KR.out (.slice Ac i1.length ac) (.slice Bc s1.length bc))
  have T_R := Lib.hid (ownW_set2 (g := (w.heap.size + 1)) Rc.out LR_c.out (.slice Ac i1.length ac) (.slice Bc s1.length bc))
  have HBF := Lib.hid (B_R.out)
  have RR := Lib.hid (T_R.out)
  unfold set2w at HBF RR
  go_wp2
  obtain ⟨rR_0, rR_1⟩ := (S_R.out).c2w
  unfold set2w at rR_0 rR_1
  exact bodyPost_ret (v := .tuple #[.agg #[.slice Ac i1.length ac, .slice Bc s1.length bc], .int .i64 er]) (by simp [results, Try.results15, go_sem, rR_0, rR_1]) rfl (⟨Ac, ac, Bc, bc, by simp, RR.out.base_ HBBc.out, HBF.out⟩)

set_option maxHeartbeats 4000000 in
theorem spin_wo (A B : Option Addr) (n a m b : Nat) (is st : List Int) (i : Int) (w : World) (hi : Ints w A n is) (hs : Ints w B m st) :
    Calls Try.prog 11 #[.agg #[.slice A n a, .slice B m b], .int .i64 i] w (YesW (spinWo is st i) w) := by
  by_cases hcase : inWo is st i ∧ nth is i.toNat = 0
  · by_cases hfit : fitsWo (is.set i.toNat 1)
    · have hc := spin_chg hcase.1 hcase.2
      obtain ⟨i1, h1⟩ : ∃ l, is.set i.toNat 1 = l := ⟨_, rfl⟩
      rw [h1] at hc
      have HC := Lib.hid hc
      have hf1 : fours i1 := by rw [← h1]; exact set_fours hcase.1.1.2.1 _ (by omega)
      have hl1 : i1.length ≤ 64 := by rw [← h1, List.length_set]; exact hcase.1.1.1.2
      have HMB := Lib.hid fun U => mayBe_wo i1 hf1 hl1 U
      have hd : decide (fitsWo i1) = true := decide_eq_true (by rw [← h1]; exact hfit)
      rw [hd] at HMB
      rw [show spinWo is st i = (true, i1, st, 0) from by unfold spinWo; rw [if_pos hcase.1, if_pos hcase.2, if_pos hfit, h1]]
      clear hc h1 hf1 hl1 hd hcase hfit
      obtain ⟨kb0, kb1, hb0⟩ := lies2 w #[.slice A n a, .slice B m b] #[.slice none 0 0, .slice none 0 0] 24 24
      obtain ⟨V, hV⟩ : ∃ V, (w.alloc (.cells #[.slice A n a, .slice B m b] 24)).alloc (.cells #[.slice none 0 0, .slice none 0 0] 24) = V := ⟨_, rfl⟩
      rw [hV] at hb0 kb0 kb1
      have HV := Lib.hid hV
      have BB := Lib.hid hb0
      have KD := Lib.hid kb0
      have HBD : Hid (w.heap.size ≤ w.heap.size) := Lib.hid (by omega)
      have KR := Lib.hid kb1
      have HBR : Hid (w.heap.size ≤ (w.heap.size + 1)) := Lib.hid (by omega)
      have OD_R : Hid (w.heap.size < (w.heap.size + 1)) := Lib.hid (by omega)
      clear hV hb0 kb0 kb1
      go_enter Try.func11, Try.ntmps11
      go_upto_region 1 with fail
      rw [HV.out]
      clear HV
      obtain ⟨qD_0, qD_1⟩ := KD.out.c2w
      have lD := KD.out.lt
      have ba := (Below.refl V.heap.size V).alloc (Nat.le_refl _) (.cells #[.int .i64 0] 3)
      have HLT : Hid (Ints (V.alloc (.cells #[.int .i64 0] 3)) (some ⟨V.heap.size, 0, none⟩) 1 [0]) := Lib.hid (ints1_wo V 3 (by unfold Fit; omega))
      replace KD := Lib.hid (KD.out.below ba KD.out.lt)
      replace KR := Lib.hid (KR.out.below ba KR.out.lt)
      replace BB := Lib.hid (below3 BB.out ba)
      clear ba
      go_wp2_with fail
      refine (change_wo A B (some ⟨V.heap.size, 0, none⟩) n a m b 1 1 is st [0] i 1 _ (hi.below BB.out) (hs.below BB.out) HLT.out (by omega)).mono ?_
      rw [HC.out]
      try dsimp only
      rintro e U1 ⟨Ac, ac, Bc, bc, he, ow, bU1⟩
      try dsimp only at he ow
      subst he
      clear qD_0 qD_1 lD
      have LD_c : Hid (w.heap.size < (V.alloc (.cells #[.int .i64 0] 3)).heap.size) := Lib.hid KD.out.lt
      have LR_c : Hid ((w.heap.size + 1) < (V.alloc (.cells #[.int .i64 0] 3)).heap.size) := Lib.hid KR.out.lt
      have HBBc : Hid (w.heap.size ≤ (V.alloc (.cells #[.int .i64 0] 3)).heap.size) := Lib.hid BB.out.size
      have Rc := Lib.hid ow
      clear ow
      replace KD := Lib.hid (KD.out.below bU1 KD.out.lt)
      replace KR := Lib.hid (KR.out.below bU1 KR.out.lt)
      replace BB := Lib.hid (below3 BB.out bU1)
      clear bU1
      clear HLT
      obtain ⟨kt, km, ba⟩ := lies2 U1 #[.slice Ac i1.length ac, .slice Bc st.length bc] #[.int .i64 (manyWo i1 0 : Int), .int .i64 (manyWo i1 1 : Int), .int .i64 (manyWo i1 2 : Int), .int .i64 (manyWo i1 3 : Int)] 24 46
      have oD := KD.out.lt
      have oR := KR.out.lt
      have hgb := BB.out.size
      replace KD := Lib.hid (KD.out.below ba KD.out.lt)
      replace KR := Lib.hid (KR.out.below ba KR.out.lt)
      replace Rc := Lib.hid (Rc.out.below ba)
      replace BB := Lib.hid (below3 BB.out ba)
      clear ba
      obtain ⟨W2, hW⟩ : ∃ W, (U1.alloc (.cells #[.slice Ac i1.length ac, .slice Bc st.length bc] 24)).alloc (.cells #[.int .i64 (manyWo i1 0 : Int), .int .i64 (manyWo i1 1 : Int), .int .i64 (manyWo i1 2 : Int), .int .i64 (manyWo i1 3 : Int)] 46) = W := ⟨_, rfl⟩
      obtain ⟨gN, hg⟩ : ∃ g, U1.heap.size = g := ⟨_, rfl⟩
      rw [hW] at kt km BB KD KR Rc
      rw [hg] at kt km hgb oD oR
      have HW := Lib.hid hW
      have HG := Lib.hid hg
      have KN := Lib.hid kt
      have KT := Lib.hid km
      have HBN := Lib.hid hgb
      have HBT : Hid (w.heap.size ≤ gN + 1) := Lib.hid (by omega)
      have OD_N := Lib.hid oD
      have OD_T := Lib.hid (Nat.lt_succ_of_lt oD)
      have OR_N := Lib.hid oR
      have OR_T := Lib.hid (Nat.lt_succ_of_lt oR)
      have ON_T : Hid (gN < gN + 1) := Lib.hid (Nat.lt_succ_self _)
      clear hW hg kt km hgb oD oR
      go_upto_region 2 with fail
      rw [HW.out]
      try rw [HG.out]
      clear HW HG
      obtain ⟨qT_0, qT_1, qT_2, qT_3⟩ := KT.out.c4w
      have lT := KT.out.lt
      go_wp2_with fail
      refine (HMB.out _).mono ?_
      try dsimp only
      rintro e U3 ⟨rfl, bU3⟩
      clear qT_0 qT_1 qT_2 qT_3 lT
      replace KD := Lib.hid (KD.out.below bU3 KD.out.lt)
      replace KR := Lib.hid (KR.out.below bU3 KR.out.lt)
      replace KN := Lib.hid (KN.out.below bU3 KN.out.lt)
      replace KT := Lib.hid (KT.out.below bU3 KT.out.lt)
      replace Rc := Lib.hid (Rc.out.below bU3)
      replace BB := Lib.hid (below3 BB.out bU3)
      clear bU3
      clear HMB
      obtain ⟨qN_0, qN_1⟩ := KN.out.c2w
      have lN := KN.out.lt
      obtain ⟨qR_0, qR_1⟩ := KR.out.c2w
      have lR := KR.out.lt
      obtain ⟨fR_0, fR_1⟩ := KR.out.f2w
      have B_R := Lib.hid (below_set2w (g := (w.heap.size + 1)) BB.out HBR.out (.slice Ac i1.length ac) (.slice Bc st.length bc))
      have S_R := Lib.hid (bk_set2w KR.out (.slice Ac i1.length ac) (.slice Bc st.length bc))
      have T_R := Lib.hid (ownW_set2 (g := (w.heap.size + 1)) Rc.out LR_c.out (.slice Ac i1.length ac) (.slice Bc st.length bc))
      have HBF := Lib.hid (B_R.out)
      have RR := Lib.hid (T_R.out)
      unfold set2w at HBF RR
      go_upto_region 6 with fail
      go_region
      go_wp2
      obtain ⟨rR_0, rR_1⟩ := (S_R.out.drew).c2w
      unfold set2w at rR_0 rR_1
      exact bodyPost_ret (v := .tuple #[.bool true, .agg #[.slice Ac i1.length ac, .slice Bc st.length bc], .int .i64 0]) (by simp [results, Try.results11, go_sem, rR_0, rR_1]) rfl (⟨Ac, ac, Bc, bc, by simp, (RR.out.below (Below.refl _ _).drew).base_ HBBc.out, HBF.out.drew⟩)
    · have hc := spin_chg hcase.1 hcase.2
      obtain ⟨i1, h1⟩ : ∃ l, is.set i.toNat 1 = l := ⟨_, rfl⟩
      rw [h1] at hc
      have HC := Lib.hid hc
      have hf1 : fours i1 := by rw [← h1]; exact set_fours hcase.1.1.2.1 _ (by omega)
      have hl1 : i1.length ≤ 64 := by rw [← h1, List.length_set]; exact hcase.1.1.1.2
      have HMB := Lib.hid fun U => mayBe_wo i1 hf1 hl1 U
      have hd : decide (fitsWo i1) = false := decide_eq_false (by rw [← h1]; exact hfit)
      rw [hd] at HMB
      rw [show spinWo is st i = (false, is, st, 0) from by unfold spinWo; rw [if_pos hcase.1, if_pos hcase.2, if_neg hfit]]
      clear hc h1 hf1 hl1 hd hcase hfit
      obtain ⟨kb0, kb1, hb0⟩ := lies2 w #[.slice A n a, .slice B m b] #[.slice none 0 0, .slice none 0 0] 24 24
      obtain ⟨V, hV⟩ : ∃ V, (w.alloc (.cells #[.slice A n a, .slice B m b] 24)).alloc (.cells #[.slice none 0 0, .slice none 0 0] 24) = V := ⟨_, rfl⟩
      rw [hV] at hb0 kb0 kb1
      have HV := Lib.hid hV
      have BB := Lib.hid hb0
      have KD := Lib.hid kb0
      have HBD : Hid (w.heap.size ≤ w.heap.size) := Lib.hid (by omega)
      have KR := Lib.hid kb1
      have HBR : Hid (w.heap.size ≤ (w.heap.size + 1)) := Lib.hid (by omega)
      have OD_R : Hid (w.heap.size < (w.heap.size + 1)) := Lib.hid (by omega)
      clear hV hb0 kb0 kb1
      go_enter Try.func11, Try.ntmps11
      go_upto_region 1 with fail
      rw [HV.out]
      clear HV
      obtain ⟨qD_0, qD_1⟩ := KD.out.c2w
      have lD := KD.out.lt
      have ba := (Below.refl V.heap.size V).alloc (Nat.le_refl _) (.cells #[.int .i64 0] 3)
      have HLT : Hid (Ints (V.alloc (.cells #[.int .i64 0] 3)) (some ⟨V.heap.size, 0, none⟩) 1 [0]) := Lib.hid (ints1_wo V 3 (by unfold Fit; omega))
      replace KD := Lib.hid (KD.out.below ba KD.out.lt)
      replace KR := Lib.hid (KR.out.below ba KR.out.lt)
      replace BB := Lib.hid (below3 BB.out ba)
      clear ba
      go_wp2_with fail
      refine (change_wo A B (some ⟨V.heap.size, 0, none⟩) n a m b 1 1 is st [0] i 1 _ (hi.below BB.out) (hs.below BB.out) HLT.out (by omega)).mono ?_
      rw [HC.out]
      try dsimp only
      rintro e U1 ⟨Ac, ac, Bc, bc, he, ow, bU1⟩
      try dsimp only at he ow
      subst he
      clear qD_0 qD_1 lD
      have LD_c : Hid (w.heap.size < (V.alloc (.cells #[.int .i64 0] 3)).heap.size) := Lib.hid KD.out.lt
      have LR_c : Hid ((w.heap.size + 1) < (V.alloc (.cells #[.int .i64 0] 3)).heap.size) := Lib.hid KR.out.lt
      have HBBc : Hid (w.heap.size ≤ (V.alloc (.cells #[.int .i64 0] 3)).heap.size) := Lib.hid BB.out.size
      have Rc := Lib.hid ow
      clear ow
      replace KD := Lib.hid (KD.out.below bU1 KD.out.lt)
      replace KR := Lib.hid (KR.out.below bU1 KR.out.lt)
      replace BB := Lib.hid (below3 BB.out bU1)
      clear bU1
      clear HLT
      obtain ⟨kt, km, ba⟩ := lies2 U1 #[.slice Ac i1.length ac, .slice Bc st.length bc] #[.int .i64 (manyWo i1 0 : Int), .int .i64 (manyWo i1 1 : Int), .int .i64 (manyWo i1 2 : Int), .int .i64 (manyWo i1 3 : Int)] 24 46
      have oD := KD.out.lt
      have oR := KR.out.lt
      have hgb := BB.out.size
      replace KD := Lib.hid (KD.out.below ba KD.out.lt)
      replace KR := Lib.hid (KR.out.below ba KR.out.lt)
      replace Rc := Lib.hid (Rc.out.below ba)
      replace BB := Lib.hid (below3 BB.out ba)
      clear ba
      obtain ⟨W2, hW⟩ : ∃ W, (U1.alloc (.cells #[.slice Ac i1.length ac, .slice Bc st.length bc] 24)).alloc (.cells #[.int .i64 (manyWo i1 0 : Int), .int .i64 (manyWo i1 1 : Int), .int .i64 (manyWo i1 2 : Int), .int .i64 (manyWo i1 3 : Int)] 46) = W := ⟨_, rfl⟩
      obtain ⟨gN, hg⟩ : ∃ g, U1.heap.size = g := ⟨_, rfl⟩
      rw [hW] at kt km BB KD KR Rc
      rw [hg] at kt km hgb oD oR
      have HW := Lib.hid hW
      have HG := Lib.hid hg
      have KN := Lib.hid kt
      have KT := Lib.hid km
      have HBN := Lib.hid hgb
      have HBT : Hid (w.heap.size ≤ gN + 1) := Lib.hid (by omega)
      have OD_N := Lib.hid oD
      have OD_T := Lib.hid (Nat.lt_succ_of_lt oD)
      have OR_N := Lib.hid oR
      have OR_T := Lib.hid (Nat.lt_succ_of_lt oR)
      have ON_T : Hid (gN < gN + 1) := Lib.hid (Nat.lt_succ_self _)
      clear hW hg kt km hgb oD oR
      go_upto_region 2 with fail
      rw [HW.out]
      try rw [HG.out]
      clear HW HG
      obtain ⟨qT_0, qT_1, qT_2, qT_3⟩ := KT.out.c4w
      have lT := KT.out.lt
      go_wp2_with fail
      refine (HMB.out _).mono ?_
      try dsimp only
      rintro e U3 ⟨rfl, bU3⟩
      clear qT_0 qT_1 qT_2 qT_3 lT
      replace KD := Lib.hid (KD.out.below bU3 KD.out.lt)
      replace KR := Lib.hid (KR.out.below bU3 KR.out.lt)
      replace KN := Lib.hid (KN.out.below bU3 KN.out.lt)
      replace KT := Lib.hid (KT.out.below bU3 KT.out.lt)
      replace Rc := Lib.hid (Rc.out.below bU3)
      replace BB := Lib.hid (below3 BB.out bU3)
      clear bU3
      clear HMB
      obtain ⟨qD_0, qD_1⟩ := KD.out.c2w
      have lD := KD.out.lt
      go_wp2_with fail
      refine (clone_wo A B n a m b is st _ (hi.below BB.out) (hs.below BB.out)).mono ?_
      try dsimp only
      rintro e U4 ⟨Ad, ad, Bd, bd, he, ow, bU4⟩
      try dsimp only at he ow
      subst he
      clear qD_0 qD_1 lD
      have LD_d : Hid (w.heap.size < U3.heap.size) := Lib.hid KD.out.lt
      have LR_d : Hid ((w.heap.size + 1) < U3.heap.size) := Lib.hid KR.out.lt
      have LN_d : Hid (gN < U3.heap.size) := Lib.hid KN.out.lt
      have LT_d : Hid ((gN + 1) < U3.heap.size) := Lib.hid KT.out.lt
      have HBBd : Hid (w.heap.size ≤ U3.heap.size) := Lib.hid BB.out.size
      have Rd := Lib.hid ow
      clear ow
      replace KD := Lib.hid (KD.out.below bU4 KD.out.lt)
      replace KR := Lib.hid (KR.out.below bU4 KR.out.lt)
      replace KN := Lib.hid (KN.out.below bU4 KN.out.lt)
      replace KT := Lib.hid (KT.out.below bU4 KT.out.lt)
      replace Rc := Lib.hid (Rc.out.below bU4)
      replace BB := Lib.hid (below3 BB.out bU4)
      clear bU4
      obtain ⟨qR_0, qR_1⟩ := KR.out.c2w
      have lR := KR.out.lt
      obtain ⟨fR_0, fR_1⟩ := KR.out.f2w
      have B_R := Lib.hid (below_set2w (g := (w.heap.size + 1)) BB.out HBR.out (.slice Ad is.length ad) (.slice Bd st.length bd))
      have S_R := Lib.hid (bk_set2w KR.out (.slice Ad is.length ad) (.slice Bd st.length bd))
      have T_R := Lib.hid (ownW_set2 (g := (w.heap.size + 1)) Rd.out LR_d.out (.slice Ad is.length ad) (.slice Bd st.length bd))
      have HBF := Lib.hid (B_R.out)
      have RR := Lib.hid (T_R.out)
      unfold set2w at HBF RR
      go_wp2
      obtain ⟨rR_0, rR_1⟩ := (S_R.out).c2w
      unfold set2w at rR_0 rR_1
      exact bodyPost_ret (v := .tuple #[.bool false, .agg #[.slice Ad is.length ad, .slice Bd st.length bd], .int .i64 0]) (by simp [results, Try.results11, go_sem, rR_0, rR_1]) rfl (⟨Ad, ad, Bd, bd, by simp, RR.out.base_ HBBd.out, HBF.out⟩)
  · obtain ⟨er, hc, hp, hne, hfe⟩ := spin_no hcase
    rw [hp]
    have HC := Lib.hid hc
    clear hc hp hcase
    obtain ⟨kb0, kb1, hb0⟩ := lies2 w #[.slice A n a, .slice B m b] #[.slice none 0 0, .slice none 0 0] 24 24
    obtain ⟨V, hV⟩ : ∃ V, (w.alloc (.cells #[.slice A n a, .slice B m b] 24)).alloc (.cells #[.slice none 0 0, .slice none 0 0] 24) = V := ⟨_, rfl⟩
    rw [hV] at hb0 kb0 kb1
    have HV := Lib.hid hV
    have BB := Lib.hid hb0
    have KD := Lib.hid kb0
    have HBD : Hid (w.heap.size ≤ w.heap.size) := Lib.hid (by omega)
    have KR := Lib.hid kb1
    have HBR : Hid (w.heap.size ≤ (w.heap.size + 1)) := Lib.hid (by omega)
    have OD_R : Hid (w.heap.size < (w.heap.size + 1)) := Lib.hid (by omega)
    clear hV hb0 kb0 kb1
    go_enter Try.func11, Try.ntmps11
    go_upto_region 1 with fail
    rw [HV.out]
    clear HV
    obtain ⟨qD_0, qD_1⟩ := KD.out.c2w
    have lD := KD.out.lt
    have ba := (Below.refl V.heap.size V).alloc (Nat.le_refl _) (.cells #[.int .i64 0] 3)
    have HLT : Hid (Ints (V.alloc (.cells #[.int .i64 0] 3)) (some ⟨V.heap.size, 0, none⟩) 1 [0]) := Lib.hid (ints1_wo V 3 (by unfold Fit; omega))
    replace KD := Lib.hid (KD.out.below ba KD.out.lt)
    replace KR := Lib.hid (KR.out.below ba KR.out.lt)
    replace BB := Lib.hid (below3 BB.out ba)
    clear ba
    go_wp2_with fail
    refine (change_wo A B (some ⟨V.heap.size, 0, none⟩) n a m b 1 1 is st [0] i 1 _ (hi.below BB.out) (hs.below BB.out) HLT.out (by omega)).mono ?_
    rw [HC.out]
    try dsimp only
    rintro e U1 ⟨Ac, ac, Bc, bc, he, ow, bU1⟩
    try dsimp only at he ow
    subst he
    clear qD_0 qD_1 lD
    have LD_c : Hid (w.heap.size < (V.alloc (.cells #[.int .i64 0] 3)).heap.size) := Lib.hid KD.out.lt
    have LR_c : Hid ((w.heap.size + 1) < (V.alloc (.cells #[.int .i64 0] 3)).heap.size) := Lib.hid KR.out.lt
    have HBBc : Hid (w.heap.size ≤ (V.alloc (.cells #[.int .i64 0] 3)).heap.size) := Lib.hid BB.out.size
    have Rc := Lib.hid ow
    clear ow
    replace KD := Lib.hid (KD.out.below bU1 KD.out.lt)
    replace KR := Lib.hid (KR.out.below bU1 KR.out.lt)
    replace BB := Lib.hid (below3 BB.out bU1)
    clear bU1
    clear HLT
    obtain ⟨kt, km, ba⟩ := lies2 U1 #[.slice Ac 0 ac, .slice Bc 0 bc] #[.int .i64 (manyWo ([] : List Int) 0 : Int), .int .i64 (manyWo ([] : List Int) 1 : Int), .int .i64 (manyWo ([] : List Int) 2 : Int), .int .i64 (manyWo ([] : List Int) 3 : Int)] 24 46
    have oD := KD.out.lt
    have oR := KR.out.lt
    have hgb := BB.out.size
    replace KD := Lib.hid (KD.out.below ba KD.out.lt)
    replace KR := Lib.hid (KR.out.below ba KR.out.lt)
    replace Rc := Lib.hid (Rc.out.below ba)
    replace BB := Lib.hid (below3 BB.out ba)
    clear ba
    obtain ⟨W2, hW⟩ : ∃ W, (U1.alloc (.cells #[.slice Ac 0 ac, .slice Bc 0 bc] 24)).alloc (.cells #[.int .i64 (manyWo ([] : List Int) 0 : Int), .int .i64 (manyWo ([] : List Int) 1 : Int), .int .i64 (manyWo ([] : List Int) 2 : Int), .int .i64 (manyWo ([] : List Int) 3 : Int)] 46) = W := ⟨_, rfl⟩
    obtain ⟨gN, hg⟩ : ∃ g, U1.heap.size = g := ⟨_, rfl⟩
    rw [hW] at kt km BB KD KR Rc
    rw [hg] at kt km hgb oD oR
    have HW := Lib.hid hW
    have HG := Lib.hid hg
    have KN := Lib.hid kt
    have KT := Lib.hid km
    have HBN := Lib.hid hgb
    have HBT : Hid (w.heap.size ≤ gN + 1) := Lib.hid (by omega)
    have OD_N := Lib.hid oD
    have OD_T := Lib.hid (Nat.lt_succ_of_lt oD)
    have OR_N := Lib.hid oR
    have OR_T := Lib.hid (Nat.lt_succ_of_lt oR)
    have ON_T : Hid (gN < gN + 1) := Lib.hid (Nat.lt_succ_self _)
    clear hW hg kt km hgb oD oR
    go_upto_region 2 with fail
    rw [HW.out]
    try rw [HG.out]
    clear HW HG
    obtain ⟨qR_0, qR_1⟩ := KR.out.c2w
    have lR := KR.out.lt
    obtain ⟨fR_0, fR_1⟩ := KR.out.f2w
    have B_R := Lib.hid (below_set2w (g := (w.heap.size + 1)) BB.out HBR.out (.slice none 0 0) (.slice none 0 0))
    have S_R := Lib.hid (bk_set2w KR.out (.slice none 0 0) (.slice none 0 0))
    have HBF := Lib.hid (B_R.out)
    unfold set2w at HBF
    go_wp2
    obtain ⟨rR_0, rR_1⟩ := (S_R.out).c2w
    unfold set2w at rR_0 rR_1
    exact bodyPost_ret (v := .tuple #[.bool false, .agg #[.slice none 0 0, .slice none 0 0], .int .i64 er]) (by simp [results, Try.results11, go_sem, rR_0, rR_1]) rfl (yesW_none HBF.out)

set_option maxHeartbeats 4000000 in
theorem park_wo (A B : Option Addr) (n a m b : Nat) (is st : List Int) (i : Int) (w : World) (hi : Ints w A n is) (hs : Ints w B m st) :
    Calls Try.prog 17 #[.agg #[.slice A n a, .slice B m b], .int .i64 i] w (ErrW (parkWo is st i) w) := by
  by_cases hcase : inWo is st i ∧ nth is i.toNat = 2
  · by_cases hfit : fitsWo (is.set i.toNat 3)
    · have hc := park_chg hcase.1 hcase.2
      obtain ⟨i1, h1⟩ : ∃ l, is.set i.toNat 3 = l := ⟨_, rfl⟩
      rw [h1] at hc
      have HC := Lib.hid hc
      have hf1 : fours i1 := by rw [← h1]; exact set_fours hcase.1.1.2.1 _ (by omega)
      have hl1 : i1.length ≤ 64 := by rw [← h1, List.length_set]; exact hcase.1.1.1.2
      have HMB := Lib.hid fun U => mayBe_wo i1 hf1 hl1 U
      have hd : decide (fitsWo i1) = true := decide_eq_true (by rw [← h1]; exact hfit)
      rw [hd] at HMB
      rw [show parkWo is st i = (i1, st, 0) from by unfold parkWo; rw [if_pos hcase.1, if_pos ⟨hcase.2, hfit⟩, h1]]
      clear hc h1 hf1 hl1 hd hcase hfit
      obtain ⟨kb0, kb1, hb0⟩ := lies2 w #[.slice A n a, .slice B m b] #[.slice none 0 0, .slice none 0 0] 24 24
      obtain ⟨V, hV⟩ : ∃ V, (w.alloc (.cells #[.slice A n a, .slice B m b] 24)).alloc (.cells #[.slice none 0 0, .slice none 0 0] 24) = V := ⟨_, rfl⟩
      rw [hV] at hb0 kb0 kb1
      have HV := Lib.hid hV
      have BB := Lib.hid hb0
      have KD := Lib.hid kb0
      have HBD : Hid (w.heap.size ≤ w.heap.size) := Lib.hid (by omega)
      have KR := Lib.hid kb1
      have HBR : Hid (w.heap.size ≤ (w.heap.size + 1)) := Lib.hid (by omega)
      have OD_R : Hid (w.heap.size < (w.heap.size + 1)) := Lib.hid (by omega)
      clear hV hb0 kb0 kb1
      go_enter Try.func17, Try.ntmps17
      go_upto_region 1 with fail
      rw [HV.out]
      clear HV
      obtain ⟨qD_0, qD_1⟩ := KD.out.c2w
      have lD := KD.out.lt
      have ba := (Below.refl V.heap.size V).alloc (Nat.le_refl _) (.cells #[.int .i64 2] 3)
      have HLT : Hid (Ints (V.alloc (.cells #[.int .i64 2] 3)) (some ⟨V.heap.size, 0, none⟩) 1 [2]) := Lib.hid (ints1_wo V 3 (by unfold Fit; omega))
      replace KD := Lib.hid (KD.out.below ba KD.out.lt)
      replace KR := Lib.hid (KR.out.below ba KR.out.lt)
      replace BB := Lib.hid (below3 BB.out ba)
      clear ba
      go_wp2_with fail
      refine (change_wo A B (some ⟨V.heap.size, 0, none⟩) n a m b 1 1 is st [2] i 3 _ (hi.below BB.out) (hs.below BB.out) HLT.out (by omega)).mono ?_
      rw [HC.out]
      try dsimp only
      rintro e U1 ⟨Ac, ac, Bc, bc, he, ow, bU1⟩
      try dsimp only at he ow
      subst he
      clear qD_0 qD_1 lD
      have LD_c : Hid (w.heap.size < (V.alloc (.cells #[.int .i64 2] 3)).heap.size) := Lib.hid KD.out.lt
      have LR_c : Hid ((w.heap.size + 1) < (V.alloc (.cells #[.int .i64 2] 3)).heap.size) := Lib.hid KR.out.lt
      have HBBc : Hid (w.heap.size ≤ (V.alloc (.cells #[.int .i64 2] 3)).heap.size) := Lib.hid BB.out.size
      have Rc := Lib.hid ow
      clear ow
      replace KD := Lib.hid (KD.out.below bU1 KD.out.lt)
      replace KR := Lib.hid (KR.out.below bU1 KR.out.lt)
      replace BB := Lib.hid (below3 BB.out bU1)
      clear bU1
      clear HLT
      obtain ⟨kt, km, ba⟩ := lies2 U1 #[.slice Ac i1.length ac, .slice Bc st.length bc] #[.int .i64 (manyWo i1 0 : Int), .int .i64 (manyWo i1 1 : Int), .int .i64 (manyWo i1 2 : Int), .int .i64 (manyWo i1 3 : Int)] 24 46
      have oD := KD.out.lt
      have oR := KR.out.lt
      have hgb := BB.out.size
      replace KD := Lib.hid (KD.out.below ba KD.out.lt)
      replace KR := Lib.hid (KR.out.below ba KR.out.lt)
      replace Rc := Lib.hid (Rc.out.below ba)
      replace BB := Lib.hid (below3 BB.out ba)
      clear ba
      obtain ⟨W2, hW⟩ : ∃ W, (U1.alloc (.cells #[.slice Ac i1.length ac, .slice Bc st.length bc] 24)).alloc (.cells #[.int .i64 (manyWo i1 0 : Int), .int .i64 (manyWo i1 1 : Int), .int .i64 (manyWo i1 2 : Int), .int .i64 (manyWo i1 3 : Int)] 46) = W := ⟨_, rfl⟩
      obtain ⟨gN, hg⟩ : ∃ g, U1.heap.size = g := ⟨_, rfl⟩
      rw [hW] at kt km BB KD KR Rc
      rw [hg] at kt km hgb oD oR
      have HW := Lib.hid hW
      have HG := Lib.hid hg
      have KN := Lib.hid kt
      have KT := Lib.hid km
      have HBN := Lib.hid hgb
      have HBT : Hid (w.heap.size ≤ gN + 1) := Lib.hid (by omega)
      have OD_N := Lib.hid oD
      have OD_T := Lib.hid (Nat.lt_succ_of_lt oD)
      have OR_N := Lib.hid oR
      have OR_T := Lib.hid (Nat.lt_succ_of_lt oR)
      have ON_T : Hid (gN < gN + 1) := Lib.hid (Nat.lt_succ_self _)
      clear hW hg kt km hgb oD oR
      go_upto_region 2 with fail
      rw [HW.out]
      try rw [HG.out]
      clear HW HG
      obtain ⟨qT_0, qT_1, qT_2, qT_3⟩ := KT.out.c4w
      have lT := KT.out.lt
      go_wp2_with fail
      refine (HMB.out _).mono ?_
      try dsimp only
      rintro e U3 ⟨rfl, bU3⟩
      clear qT_0 qT_1 qT_2 qT_3 lT
      replace KD := Lib.hid (KD.out.below bU3 KD.out.lt)
      replace KR := Lib.hid (KR.out.below bU3 KR.out.lt)
      replace KN := Lib.hid (KN.out.below bU3 KN.out.lt)
      replace KT := Lib.hid (KT.out.below bU3 KT.out.lt)
      replace Rc := Lib.hid (Rc.out.below bU3)
      replace BB := Lib.hid (below3 BB.out bU3)
      clear bU3
      clear HMB
      obtain ⟨qN_0, qN_1⟩ := KN.out.c2w
      have lN := KN.out.lt
      obtain ⟨qR_0, qR_1⟩ := KR.out.c2w
      have lR := KR.out.lt
      obtain ⟨fR_0, fR_1⟩ := KR.out.f2w
      have B_R := Lib.hid (below_set2w (g := (w.heap.size + 1)) BB.out HBR.out (.slice Ac i1.length ac) (.slice Bc st.length bc))
      have S_R := Lib.hid (bk_set2w KR.out (.slice Ac i1.length ac) (.slice Bc st.length bc))
      have T_R := Lib.hid (ownW_set2 (g := (w.heap.size + 1)) Rc.out LR_c.out (.slice Ac i1.length ac) (.slice Bc st.length bc))
      have HBF := Lib.hid (B_R.out)
      have RR := Lib.hid (T_R.out)
      unfold set2w at HBF RR
      go_wp2
      obtain ⟨rR_0, rR_1⟩ := (S_R.out).c2w
      unfold set2w at rR_0 rR_1
      exact bodyPost_ret (v := .tuple #[.agg #[.slice Ac i1.length ac, .slice Bc st.length bc], .int .i64 0]) (by simp [results, Try.results17, go_sem, rR_0, rR_1]) rfl (⟨Ac, ac, Bc, bc, by simp, RR.out.base_ HBBc.out, HBF.out⟩)
    · have hc := park_chg hcase.1 hcase.2
      obtain ⟨i1, h1⟩ : ∃ l, is.set i.toNat 3 = l := ⟨_, rfl⟩
      rw [h1] at hc
      have HC := Lib.hid hc
      have hf1 : fours i1 := by rw [← h1]; exact set_fours hcase.1.1.2.1 _ (by omega)
      have hl1 : i1.length ≤ 64 := by rw [← h1, List.length_set]; exact hcase.1.1.1.2
      have HMB := Lib.hid fun U => mayBe_wo i1 hf1 hl1 U
      have hd : decide (fitsWo i1) = false := decide_eq_false (by rw [← h1]; exact hfit)
      rw [hd] at HMB
      rw [show parkWo is st i = ([], [], 9) from by unfold parkWo; rw [if_pos hcase.1, if_neg (fun q => hfit q.2)]]
      clear hc h1 hf1 hl1 hd hcase hfit
      obtain ⟨kb0, kb1, hb0⟩ := lies2 w #[.slice A n a, .slice B m b] #[.slice none 0 0, .slice none 0 0] 24 24
      obtain ⟨V, hV⟩ : ∃ V, (w.alloc (.cells #[.slice A n a, .slice B m b] 24)).alloc (.cells #[.slice none 0 0, .slice none 0 0] 24) = V := ⟨_, rfl⟩
      rw [hV] at hb0 kb0 kb1
      have HV := Lib.hid hV
      have BB := Lib.hid hb0
      have KD := Lib.hid kb0
      have HBD : Hid (w.heap.size ≤ w.heap.size) := Lib.hid (by omega)
      have KR := Lib.hid kb1
      have HBR : Hid (w.heap.size ≤ (w.heap.size + 1)) := Lib.hid (by omega)
      have OD_R : Hid (w.heap.size < (w.heap.size + 1)) := Lib.hid (by omega)
      clear hV hb0 kb0 kb1
      go_enter Try.func17, Try.ntmps17
      go_upto_region 1 with fail
      rw [HV.out]
      clear HV
      obtain ⟨qD_0, qD_1⟩ := KD.out.c2w
      have lD := KD.out.lt
      have ba := (Below.refl V.heap.size V).alloc (Nat.le_refl _) (.cells #[.int .i64 2] 3)
      have HLT : Hid (Ints (V.alloc (.cells #[.int .i64 2] 3)) (some ⟨V.heap.size, 0, none⟩) 1 [2]) := Lib.hid (ints1_wo V 3 (by unfold Fit; omega))
      replace KD := Lib.hid (KD.out.below ba KD.out.lt)
      replace KR := Lib.hid (KR.out.below ba KR.out.lt)
      replace BB := Lib.hid (below3 BB.out ba)
      clear ba
      go_wp2_with fail
      refine (change_wo A B (some ⟨V.heap.size, 0, none⟩) n a m b 1 1 is st [2] i 3 _ (hi.below BB.out) (hs.below BB.out) HLT.out (by omega)).mono ?_
      rw [HC.out]
      try dsimp only
      rintro e U1 ⟨Ac, ac, Bc, bc, he, ow, bU1⟩
      try dsimp only at he ow
      subst he
      clear qD_0 qD_1 lD
      have LD_c : Hid (w.heap.size < (V.alloc (.cells #[.int .i64 2] 3)).heap.size) := Lib.hid KD.out.lt
      have LR_c : Hid ((w.heap.size + 1) < (V.alloc (.cells #[.int .i64 2] 3)).heap.size) := Lib.hid KR.out.lt
      have HBBc : Hid (w.heap.size ≤ (V.alloc (.cells #[.int .i64 2] 3)).heap.size) := Lib.hid BB.out.size
      have Rc := Lib.hid ow
      clear ow
      replace KD := Lib.hid (KD.out.below bU1 KD.out.lt)
      replace KR := Lib.hid (KR.out.below bU1 KR.out.lt)
      replace BB := Lib.hid (below3 BB.out bU1)
      clear bU1
      clear HLT
      obtain ⟨kt, km, ba⟩ := lies2 U1 #[.slice Ac i1.length ac, .slice Bc st.length bc] #[.int .i64 (manyWo i1 0 : Int), .int .i64 (manyWo i1 1 : Int), .int .i64 (manyWo i1 2 : Int), .int .i64 (manyWo i1 3 : Int)] 24 46
      have oD := KD.out.lt
      have oR := KR.out.lt
      have hgb := BB.out.size
      replace KD := Lib.hid (KD.out.below ba KD.out.lt)
      replace KR := Lib.hid (KR.out.below ba KR.out.lt)
      replace Rc := Lib.hid (Rc.out.below ba)
      replace BB := Lib.hid (below3 BB.out ba)
      clear ba
      obtain ⟨W2, hW⟩ : ∃ W, (U1.alloc (.cells #[.slice Ac i1.length ac, .slice Bc st.length bc] 24)).alloc (.cells #[.int .i64 (manyWo i1 0 : Int), .int .i64 (manyWo i1 1 : Int), .int .i64 (manyWo i1 2 : Int), .int .i64 (manyWo i1 3 : Int)] 46) = W := ⟨_, rfl⟩
      obtain ⟨gN, hg⟩ : ∃ g, U1.heap.size = g := ⟨_, rfl⟩
      rw [hW] at kt km BB KD KR Rc
      rw [hg] at kt km hgb oD oR
      have HW := Lib.hid hW
      have HG := Lib.hid hg
      have KN := Lib.hid kt
      have KT := Lib.hid km
      have HBN := Lib.hid hgb
      have HBT : Hid (w.heap.size ≤ gN + 1) := Lib.hid (by omega)
      have OD_N := Lib.hid oD
      have OD_T := Lib.hid (Nat.lt_succ_of_lt oD)
      have OR_N := Lib.hid oR
      have OR_T := Lib.hid (Nat.lt_succ_of_lt oR)
      have ON_T : Hid (gN < gN + 1) := Lib.hid (Nat.lt_succ_self _)
      clear hW hg kt km hgb oD oR
      go_upto_region 2 with fail
      rw [HW.out]
      try rw [HG.out]
      clear HW HG
      obtain ⟨qT_0, qT_1, qT_2, qT_3⟩ := KT.out.c4w
      have lT := KT.out.lt
      go_wp2_with fail
      refine (HMB.out _).mono ?_
      try dsimp only
      rintro e U3 ⟨rfl, bU3⟩
      clear qT_0 qT_1 qT_2 qT_3 lT
      replace KD := Lib.hid (KD.out.below bU3 KD.out.lt)
      replace KR := Lib.hid (KR.out.below bU3 KR.out.lt)
      replace KN := Lib.hid (KN.out.below bU3 KN.out.lt)
      replace KT := Lib.hid (KT.out.below bU3 KT.out.lt)
      replace Rc := Lib.hid (Rc.out.below bU3)
      replace BB := Lib.hid (below3 BB.out bU3)
      clear bU3
      clear HMB
      obtain ⟨qR_0, qR_1⟩ := KR.out.c2w
      have lR := KR.out.lt
      obtain ⟨fR_0, fR_1⟩ := KR.out.f2w
      have B_R := Lib.hid (below_set2w (g := (w.heap.size + 1)) BB.out HBR.out (.slice none 0 0) (.slice none 0 0))
      have S_R := Lib.hid (bk_set2w KR.out (.slice none 0 0) (.slice none 0 0))
      have HBF := Lib.hid (B_R.out)
      unfold set2w at HBF
      go_wp2
      obtain ⟨rR_0, rR_1⟩ := (S_R.out).c2w
      unfold set2w at rR_0 rR_1
      exact bodyPost_ret (v := .tuple #[.agg #[.slice none 0 0, .slice none 0 0], .int .i64 9]) (by simp [results, Try.results17, go_sem, rR_0, rR_1]) rfl (errW_none HBF.out)
  · obtain ⟨er, hc, hp, hne, hfe⟩ := park_no hcase
    rw [hp]
    have HC := Lib.hid hc
    clear hc hp hcase
    obtain ⟨kb0, kb1, hb0⟩ := lies2 w #[.slice A n a, .slice B m b] #[.slice none 0 0, .slice none 0 0] 24 24
    obtain ⟨V, hV⟩ : ∃ V, (w.alloc (.cells #[.slice A n a, .slice B m b] 24)).alloc (.cells #[.slice none 0 0, .slice none 0 0] 24) = V := ⟨_, rfl⟩
    rw [hV] at hb0 kb0 kb1
    have HV := Lib.hid hV
    have BB := Lib.hid hb0
    have KD := Lib.hid kb0
    have HBD : Hid (w.heap.size ≤ w.heap.size) := Lib.hid (by omega)
    have KR := Lib.hid kb1
    have HBR : Hid (w.heap.size ≤ (w.heap.size + 1)) := Lib.hid (by omega)
    have OD_R : Hid (w.heap.size < (w.heap.size + 1)) := Lib.hid (by omega)
    clear hV hb0 kb0 kb1
    go_enter Try.func17, Try.ntmps17
    go_upto_region 1 with fail
    rw [HV.out]
    clear HV
    obtain ⟨qD_0, qD_1⟩ := KD.out.c2w
    have lD := KD.out.lt
    have ba := (Below.refl V.heap.size V).alloc (Nat.le_refl _) (.cells #[.int .i64 2] 3)
    have HLT : Hid (Ints (V.alloc (.cells #[.int .i64 2] 3)) (some ⟨V.heap.size, 0, none⟩) 1 [2]) := Lib.hid (ints1_wo V 3 (by unfold Fit; omega))
    replace KD := Lib.hid (KD.out.below ba KD.out.lt)
    replace KR := Lib.hid (KR.out.below ba KR.out.lt)
    replace BB := Lib.hid (below3 BB.out ba)
    clear ba
    go_wp2_with fail
    refine (change_wo A B (some ⟨V.heap.size, 0, none⟩) n a m b 1 1 is st [2] i 3 _ (hi.below BB.out) (hs.below BB.out) HLT.out (by omega)).mono ?_
    rw [HC.out]
    try dsimp only
    rintro e U1 ⟨Ac, ac, Bc, bc, he, ow, bU1⟩
    try dsimp only at he ow
    subst he
    clear qD_0 qD_1 lD
    have LD_c : Hid (w.heap.size < (V.alloc (.cells #[.int .i64 2] 3)).heap.size) := Lib.hid KD.out.lt
    have LR_c : Hid ((w.heap.size + 1) < (V.alloc (.cells #[.int .i64 2] 3)).heap.size) := Lib.hid KR.out.lt
    have HBBc : Hid (w.heap.size ≤ (V.alloc (.cells #[.int .i64 2] 3)).heap.size) := Lib.hid BB.out.size
    have Rc := Lib.hid ow
    clear ow
    replace KD := Lib.hid (KD.out.below bU1 KD.out.lt)
    replace KR := Lib.hid (KR.out.below bU1 KR.out.lt)
    replace BB := Lib.hid (below3 BB.out bU1)
    clear bU1
    clear HLT
    obtain ⟨kt, km, ba⟩ := lies2 U1 #[.slice Ac 0 ac, .slice Bc 0 bc] #[.int .i64 (manyWo ([] : List Int) 0 : Int), .int .i64 (manyWo ([] : List Int) 1 : Int), .int .i64 (manyWo ([] : List Int) 2 : Int), .int .i64 (manyWo ([] : List Int) 3 : Int)] 24 46
    have oD := KD.out.lt
    have oR := KR.out.lt
    have hgb := BB.out.size
    replace KD := Lib.hid (KD.out.below ba KD.out.lt)
    replace KR := Lib.hid (KR.out.below ba KR.out.lt)
    replace Rc := Lib.hid (Rc.out.below ba)
    replace BB := Lib.hid (below3 BB.out ba)
    clear ba
    obtain ⟨W2, hW⟩ : ∃ W, (U1.alloc (.cells #[.slice Ac 0 ac, .slice Bc 0 bc] 24)).alloc (.cells #[.int .i64 (manyWo ([] : List Int) 0 : Int), .int .i64 (manyWo ([] : List Int) 1 : Int), .int .i64 (manyWo ([] : List Int) 2 : Int), .int .i64 (manyWo ([] : List Int) 3 : Int)] 46) = W := ⟨_, rfl⟩
    obtain ⟨gN, hg⟩ : ∃ g, U1.heap.size = g := ⟨_, rfl⟩
    rw [hW] at kt km BB KD KR Rc
    rw [hg] at kt km hgb oD oR
    have HW := Lib.hid hW
    have HG := Lib.hid hg
    have KN := Lib.hid kt
    have KT := Lib.hid km
    have HBN := Lib.hid hgb
    have HBT : Hid (w.heap.size ≤ gN + 1) := Lib.hid (by omega)
    have OD_N := Lib.hid oD
    have OD_T := Lib.hid (Nat.lt_succ_of_lt oD)
    have OR_N := Lib.hid oR
    have OR_T := Lib.hid (Nat.lt_succ_of_lt oR)
    have ON_T : Hid (gN < gN + 1) := Lib.hid (Nat.lt_succ_self _)
    clear hW hg kt km hgb oD oR
    go_upto_region 2 with fail
    rw [HW.out]
    try rw [HG.out]
    clear HW HG
    obtain ⟨qR_0, qR_1⟩ := KR.out.c2w
    have lR := KR.out.lt
    obtain ⟨fR_0, fR_1⟩ := KR.out.f2w
    have B_R := Lib.hid (below_set2w (g := (w.heap.size + 1)) BB.out HBR.out (.slice none 0 0) (.slice none 0 0))
    have S_R := Lib.hid (bk_set2w KR.out (.slice none 0 0) (.slice none 0 0))
    have HBF := Lib.hid (B_R.out)
    unfold set2w at HBF
    go_wp2
    obtain ⟨rR_0, rR_1⟩ := (S_R.out).c2w
    unfold set2w at rR_0 rR_1
    exact bodyPost_ret (v := .tuple #[.agg #[.slice none 0 0, .slice none 0 0], .int .i64 er]) (by simp [results, Try.results17, go_sem, rR_0, rR_1]) rfl (errW_none HBF.out)

set_option maxHeartbeats 4000000 in
theorem wake_wo (A B : Option Addr) (n a m b : Nat) (is st : List Int) (w : World) (hi : Ints w A n is) (hs : Ints w B m st) :
    Calls Try.prog 19 #[.agg #[.slice A n a, .slice B m b]] w (WhoW (wakeWo is st) w) := by
  by_cases hok : okWo is st
  · by_cases h0 : st.length = 0
    · rw [show wakeWo is st = (0, [], [], 5) from by unfold wakeWo; rw [if_pos hok, if_pos h0]]
      have HQ := Lib.hid fun U hU => check_wo A B n a m b is st U (hi.below hU) (hs.below hU)
      have HE : Hid (chkWo is st = 0) := Lib.hid (if_pos hok)
      have t0 : ((m : Int) == 0) = true := by have := hs.1; simp; omega
      clear hok hi hs h0
      obtain ⟨kb0, kb1, hb0⟩ := lies2 w #[.slice A n a, .slice B m b] #[.slice none 0 0, .slice none 0 0] 24 24
      obtain ⟨V, hV⟩ : ∃ V, (w.alloc (.cells #[.slice A n a, .slice B m b] 24)).alloc (.cells #[.slice none 0 0, .slice none 0 0] 24) = V := ⟨_, rfl⟩
      rw [hV] at hb0 kb0 kb1
      have HV := Lib.hid hV
      have BB := Lib.hid hb0
      have KD := Lib.hid kb0
      have HBD : Hid (w.heap.size ≤ w.heap.size) := Lib.hid (by omega)
      have KR := Lib.hid kb1
      have HBR : Hid (w.heap.size ≤ (w.heap.size + 1)) := Lib.hid (by omega)
      have OD_R : Hid (w.heap.size < (w.heap.size + 1)) := Lib.hid (by omega)
      clear hV hb0 kb0 kb1
      go_enter Try.func19, Try.ntmps19
      go_upto_region 1 with fail
      rw [HV.out]
      clear HV
      obtain ⟨qD_0, qD_1⟩ := KD.out.c2w
      have lD := KD.out.lt
      go_wp2_with fail
      refine (HQ.out _ BB.out).mono ?_
      rw [HE.out]
      try dsimp only
      rintro e U1 ⟨rfl, bU1⟩
      clear qD_0 qD_1 lD
      replace KD := Lib.hid (KD.out.below bU1 KD.out.lt)
      replace KR := Lib.hid (KR.out.below bU1 KR.out.lt)
      replace BB := Lib.hid (below3 BB.out bU1)
      clear bU1
      clear HQ HE
      obtain ⟨qD_0, qD_1⟩ := KD.out.c2w
      have lD := KD.out.lt
      obtain ⟨qR_0, qR_1⟩ := KR.out.c2w
      have lR := KR.out.lt
      obtain ⟨fR_0, fR_1⟩ := KR.out.f2w
      have B_R := Lib.hid (below_set2w (g := (w.heap.size + 1)) BB.out HBR.out (.slice none 0 0) (.slice none 0 0))
      have S_R := Lib.hid (bk_set2w KR.out (.slice none 0 0) (.slice none 0 0))
      have HBF := Lib.hid (B_R.out)
      unfold set2w at HBF
      go_wp2
      obtain ⟨rR_0, rR_1⟩ := (S_R.out).c2w
      unfold set2w at rR_0 rR_1
      exact bodyPost_ret (v := .tuple #[.int .i64 0, .agg #[.slice none 0 0, .slice none 0 0], .int .i64 5]) (by simp [results, Try.results19, go_sem, rR_0, rR_1]) rfl (whoW_none HBF.out)
    · have hc := wake_chg hok h0
      have hlast := (last_in hok h0).1
      have hfl := hs.fit_bt (k := st.length - 1) (by have := hs.1; omega)
      obtain ⟨bS, o, rfl, hb, c0⟩ := hs.at_bt (k := st.length - 1) (by have := hs.1; omega)
      have hpl : wakeWo is st = (nth st (st.length - 1), is.set (nth st (st.length - 1)).toNat 0, butBt st (nth st (st.length - 1)), 0) := by unfold wakeWo; rw [if_pos hok, if_neg h0]
      rw [hpl]
      obtain ⟨v, hv⟩ : ∃ v, nth st (st.length - 1) = v := ⟨_, rfl⟩
      rw [hv] at hc c0 hfl ⊢
      obtain ⟨i1, h1⟩ : ∃ l, is.set v.toNat 0 = l := ⟨_, rfl⟩
      obtain ⟨s1, h2⟩ : ∃ l, butBt st v = l := ⟨_, rfl⟩
      rw [h1, h2] at hc ⊢
      have HC := Lib.hid hc
      have hsl : st.length = m := hs.1
      rw [hsl] at c0
      have hm1 : 1 ≤ m := by omega
      have hmx := hs.2.1
      have e1 : IntKind.i64.wrap ((m : Int) - 1) = ((m - 1 : Nat) : Int) := by rw [IntKind.wrap_i64]; omega
      have t0 : ((m : Int) == 0) = false := by simp; omega
      have e2 : m - 1 < m := by omega
      have HQ := Lib.hid fun U hU => check_wo A (some ⟨bS, o, none⟩) n a m b is st U (hi.below hU) (hs.below hU)
      have HE : Hid (chkWo is st = 0) := Lib.hid (if_pos hok)
      have HCC := Lib.hid fun U F (hU : Below w.heap.size w U) (hF : Ints U F 2 [2, 3]) => change_wo A (some ⟨bS, o, none⟩) F n a m b 2 2 is st [2, 3] v 0 U (hi.below hU) (hs.below hU) hF (by omega)
      clear hok hi hs h0 hc hlast hpl hv h1 h2 hsl
      obtain ⟨kb0, kb1, hb0⟩ := lies2 w #[.slice A n a, .slice (some ⟨bS, o, none⟩) m b] #[.slice none 0 0, .slice none 0 0] 24 24
      obtain ⟨V, hV⟩ : ∃ V, (w.alloc (.cells #[.slice A n a, .slice (some ⟨bS, o, none⟩) m b] 24)).alloc (.cells #[.slice none 0 0, .slice none 0 0] 24) = V := ⟨_, rfl⟩
      rw [hV] at hb0 kb0 kb1
      have HV := Lib.hid hV
      have BB := Lib.hid hb0
      have KD := Lib.hid kb0
      have HBD : Hid (w.heap.size ≤ w.heap.size) := Lib.hid (by omega)
      have KR := Lib.hid kb1
      have HBR : Hid (w.heap.size ≤ (w.heap.size + 1)) := Lib.hid (by omega)
      have OD_R : Hid (w.heap.size < (w.heap.size + 1)) := Lib.hid (by omega)
      clear hV hb0 kb0 kb1
      go_enter Try.func19, Try.ntmps19
      go_upto_region 1 with fail
      rw [HV.out]
      clear HV
      obtain ⟨qD_0, qD_1⟩ := KD.out.c2w
      have lD := KD.out.lt
      go_wp2_with fail
      refine (HQ.out _ BB.out).mono ?_
      rw [HE.out]
      try dsimp only
      rintro e U1 ⟨rfl, bU1⟩
      clear qD_0 qD_1 lD
      replace KD := Lib.hid (KD.out.below bU1 KD.out.lt)
      replace KR := Lib.hid (KR.out.below bU1 KR.out.lt)
      replace BB := Lib.hid (below3 BB.out bU1)
      clear bU1
      clear HQ HE
      obtain ⟨qD_0, qD_1⟩ := KD.out.c2w
      have lD := KD.out.lt
      have c1 := (BB.out.cell (p := ⟨bS, o + (m - 1), none⟩) hb).trans c0
      have lb := Nat.lt_of_lt_of_le hb BB.out.size
      go_upto_region 7 with fail
      clear c1 lb c0
      clear qD_0 qD_1 lD
      obtain ⟨qD_0, qD_1⟩ := KD.out.c2w
      have lD := KD.out.lt
      have ba := (Below.refl U1.heap.size U1).alloc (Nat.le_refl _) (.cells #[.int .i64 2, .int .i64 3] 3)
      have HLT : Hid (Ints (U1.alloc (.cells #[.int .i64 2, .int .i64 3] 3)) (some ⟨U1.heap.size, 0, none⟩) 2 [2, 3]) := Lib.hid (ints2_wo U1 3 (by unfold Fit; omega) (by unfold Fit; omega))
      replace KD := Lib.hid (KD.out.below ba KD.out.lt)
      replace KR := Lib.hid (KR.out.below ba KR.out.lt)
      replace BB := Lib.hid (below3 BB.out ba)
      clear ba
      go_wp2_with fail
      refine (HCC.out _ _ BB.out HLT.out).mono ?_
      rw [HC.out]
      try dsimp only
      rintro e U2 ⟨Ac, ac, Bc, bc, he, ow, bU2⟩
      try dsimp only at he ow
      subst he
      clear qD_0 qD_1 lD
      have LD_c : Hid (w.heap.size < (U1.alloc (.cells #[.int .i64 2, .int .i64 3] 3)).heap.size) := Lib.hid KD.out.lt
      have LR_c : Hid ((w.heap.size + 1) < (U1.alloc (.cells #[.int .i64 2, .int .i64 3] 3)).heap.size) := Lib.hid KR.out.lt
      have HBBc : Hid (w.heap.size ≤ (U1.alloc (.cells #[.int .i64 2, .int .i64 3] 3)).heap.size) := Lib.hid BB.out.size
      have Rc := Lib.hid ow
      clear ow
      replace KD := Lib.hid (KD.out.below bU2 KD.out.lt)
      replace KR := Lib.hid (KR.out.below bU2 KR.out.lt)
      replace BB := Lib.hid (below3 BB.out bU2)
      clear bU2
      clear HLT HCC
      obtain ⟨kt, km, ba⟩ := lies2 U2 #[.slice Ac i1.length ac, .slice Bc s1.length bc] #[.int .i64 (manyWo i1 0 : Int), .int .i64 (manyWo i1 1 : Int), .int .i64 (manyWo i1 2 : Int), .int .i64 (manyWo i1 3 : Int)] 24 46
      have oD := KD.out.lt
      have oR := KR.out.lt
      have hgb := BB.out.size
      replace KD := Lib.hid (KD.out.below ba KD.out.lt)
      replace KR := Lib.hid (KR.out.below ba KR.out.lt)
      replace Rc := Lib.hid (Rc.out.below ba)
      replace BB := Lib.hid (below3 BB.out ba)
      clear ba
      obtain ⟨W3, hW⟩ : ∃ W, (U2.alloc (.cells #[.slice Ac i1.length ac, .slice Bc s1.length bc] 24)).alloc (.cells #[.int .i64 (manyWo i1 0 : Int), .int .i64 (manyWo i1 1 : Int), .int .i64 (manyWo i1 2 : Int), .int .i64 (manyWo i1 3 : Int)] 46) = W := ⟨_, rfl⟩
      obtain ⟨gN, hg⟩ : ∃ g, U2.heap.size = g := ⟨_, rfl⟩
      rw [hW] at kt km BB KD KR Rc
      rw [hg] at kt km hgb oD oR
      have HW := Lib.hid hW
      have HG := Lib.hid hg
      have KN := Lib.hid kt
      have KT := Lib.hid km
      have HBN := Lib.hid hgb
      have HBT : Hid (w.heap.size ≤ gN + 1) := Lib.hid (by omega)
      have OD_N := Lib.hid oD
      have OD_T := Lib.hid (Nat.lt_succ_of_lt oD)
      have OR_N := Lib.hid oR
      have OR_T := Lib.hid (Nat.lt_succ_of_lt oR)
      have ON_T : Hid (gN < gN + 1) := Lib.hid (Nat.lt_succ_self _)
      clear hW hg kt km hgb oD oR
      go_upto_region 8 with fail
      rw [HW.out]
      try rw [HG.out]
      clear HW HG
      obtain ⟨qN_0, qN_1⟩ := KN.out.c2w
      have lN := KN.out.lt
      obtain ⟨qR_0, qR_1⟩ := KR.out.c2w
      have lR := KR.out.lt
      obtain ⟨fR_0, fR_1⟩ := KR.out.f2w
      have B_R := Lib.hid (below_set2w (g := (w.heap.size + 1)) BB.out HBR.out (.slice Ac i1.length ac) (.slice Bc s1.length bc))
      have S_R := Lib.hid (bk_set2w KR.out (.slice Ac i1.length ac) (.slice Bc s1.length bc))
      have T_R := Lib.hid (ownW_set2 (g := (w.heap.size + 1)) Rc.out LR_c.out (.slice Ac i1.length ac) (.slice Bc s1.length bc))
      have HBF := Lib.hid (B_R.out)
      have RR := Lib.hid (T_R.out)
      unfold set2w at HBF RR
      skip
      go_region
      go_wp2
      obtain ⟨rR_0, rR_1⟩ := (S_R.out.drew).c2w
      unfold set2w at rR_0 rR_1
      exact bodyPost_ret (v := .tuple #[.int .i64 v, .agg #[.slice Ac i1.length ac, .slice Bc s1.length bc], .int .i64 0]) (by simp [results, Try.results19, go_sem, rR_0, rR_1]) rfl (⟨Ac, ac, Bc, bc, by simp, (RR.out.below (Below.refl _ _).drew).base_ HBBc.out, HBF.out.drew⟩)
  · rw [show wakeWo is st = (0, [], [], 1) from if_neg hok]
    have HQ := Lib.hid fun U hU => check_wo A B n a m b is st U (hi.below hU) (hs.below hU)
    have HE : Hid (chkWo is st = 1) := Lib.hid (if_neg hok)
    clear hok hi hs
    obtain ⟨kb0, kb1, hb0⟩ := lies2 w #[.slice A n a, .slice B m b] #[.slice none 0 0, .slice none 0 0] 24 24
    obtain ⟨V, hV⟩ : ∃ V, (w.alloc (.cells #[.slice A n a, .slice B m b] 24)).alloc (.cells #[.slice none 0 0, .slice none 0 0] 24) = V := ⟨_, rfl⟩
    rw [hV] at hb0 kb0 kb1
    have HV := Lib.hid hV
    have BB := Lib.hid hb0
    have KD := Lib.hid kb0
    have HBD : Hid (w.heap.size ≤ w.heap.size) := Lib.hid (by omega)
    have KR := Lib.hid kb1
    have HBR : Hid (w.heap.size ≤ (w.heap.size + 1)) := Lib.hid (by omega)
    have OD_R : Hid (w.heap.size < (w.heap.size + 1)) := Lib.hid (by omega)
    clear hV hb0 kb0 kb1
    go_enter Try.func19, Try.ntmps19
    go_upto_region 1 with fail
    rw [HV.out]
    clear HV
    obtain ⟨qD_0, qD_1⟩ := KD.out.c2w
    have lD := KD.out.lt
    go_wp2_with fail
    refine (HQ.out _ BB.out).mono ?_
    rw [HE.out]
    try dsimp only
    rintro e U1 ⟨rfl, bU1⟩
    clear qD_0 qD_1 lD
    replace KD := Lib.hid (KD.out.below bU1 KD.out.lt)
    replace KR := Lib.hid (KR.out.below bU1 KR.out.lt)
    replace BB := Lib.hid (below3 BB.out bU1)
    clear bU1
    clear HQ HE
    obtain ⟨qR_0, qR_1⟩ := KR.out.c2w
    have lR := KR.out.lt
    obtain ⟨fR_0, fR_1⟩ := KR.out.f2w
    have B_R := Lib.hid (below_set2w (g := (w.heap.size + 1)) BB.out HBR.out (.slice none 0 0) (.slice none 0 0))
    have S_R := Lib.hid (bk_set2w KR.out (.slice none 0 0) (.slice none 0 0))
    have HBF := Lib.hid (B_R.out)
    unfold set2w at HBF
    go_wp2
    obtain ⟨rR_0, rR_1⟩ := (S_R.out).c2w
    unfold set2w at rR_0 rR_1
    exact bodyPost_ret (v := .tuple #[.int .i64 0, .agg #[.slice none 0 0, .slice none 0 0], .int .i64 1]) (by simp [results, Try.results19, go_sem, rR_0, rR_1]) rfl (whoW_none HBF.out)

end Go.Proofs.Ytmndkofdoclihaa

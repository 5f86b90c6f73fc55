/-
  Layer 8, the program: one timer fewer, one at another time, the first one, and those that are due.
-/
import Derived.Test.YtjamoafihmcmeaaHf
namespace Go.Proofs.Ytjamoafihmcmeaa
open Go.RowKit

theorem CancelSpec.err {l : List Tm} {id z : Int} (h : (cancelR l id).1 = z) (hz : z ≠ 0) : CancelSpec l id z [] := ⟨h.symm, fun _ => rfl, fun q => absurd q hz⟩
theorem ResetSpec.err {l : List Tm} {id at_ z : Int} (h : (resetR l id at_).1 = z) (hz : z ≠ 0) : ResetSpec l id at_ z [] := ⟨h.symm, fun _ => rfl, fun q => absurd q hz⟩
theorem OwnT.some_ {w : World} {base c : Nat} {A : Option Addr} {l : List Tm} (h : OwnT 24 w base A c l) (hl : 0 < l.length) : ∃ g, A = some ⟨g, 0, none⟩ ∧ base ≤ g := by
  obtain ⟨g, cap, e1, h1, _⟩ := h.2.2.form hl
  injection e1 with e1
  exact ⟨g, e1, h1⟩

set_option maxHeartbeats 2000000 in
theorem pcancel_any (A : Option Addr) (n c : Nat) (l : List Tm) (id : Int) (w : World) (hx : Tms w A n c l) :
    Calls Try.prog 13 #[.slice A n c, .int .i64 id] w (RetE (CancelSpec l id) w) := by
  have HX := Lib.hid hx
  have LX := Lib.hid hx.1
  clear hx
  go_enter Try.func13, Try.ntmps13
  go_wp2_with fail
  refine (pcheck_any A n c l _ HX.out).mono ?_
  rintro e w1 ⟨rfl, b1⟩
  have B1 := Lib.hid b1
  clear b1
  by_cases hok : heapOk l
  · rw [if_pos hok]
    have HOK := Lib.hid hok
    have hn : n ≤ 999 := by have := hok.1; have := LX.out; omega
    clear hok
    go_wp2_with fail
    refine (of_any id _).mono ?_
    rintro e w3 ⟨rfl, hw3⟩
    have b3 := (Below.refl w1.heap.size w1).alloc (Nat.le_refl _) (.cells #[.int .i64 id] 2)
    have k3 := Bk.new w1 2 #[.int .i64 id]
    rw [← hw3] at b3 k3
    have B3 := Lib.hid (below3 B1.out b3)
    have HC := Lib.hid (idx_any A n c l id w1.heap.size w3 (HX.out.below B3.out) k3)
    clear b3 k3 hw3
    go_wp2_with fail
    refine HC.out.mono ?_
    rintro e w4 (⟨j, rfl, hj, hje, b4⟩ | ⟨rfl, hno, b4⟩)
    · have B4 := Lib.hid (below3 B3.out b4)
      have HJ := Lib.hid hj
      have HJE := Lib.hid hje
      clear hj hje b4 HC
      go_wp2_with fail
      refine (clone_any A n c l _ (HX.out.below B4.out) (by omega)).mono ?_
      rintro e w5 ⟨A1, c1, rfl, o1, b5⟩
      obtain ⟨g, rfl, hg⟩ := o1.some_ (by have := HJ.out; omega)
      have HG := Lib.hid hg
      have B5 := Lib.hid (below3 B4.out b5)
      have HW := Lib.hid (without_any w4.heap.size g c1 l j w5 o1 HJ.out (by have := LX.out; omega))
      clear hg b5 o1
      go_wp2_with fail
      refine HW.out.mono ?_
      rintro e w6 ⟨r, rfl, hr, o6, g6⟩
      have HR := Lib.hid (wout_heap HOK.out HJ.out hr)
      have HE := Lib.hid (show (cancelR l id).1 = 0 by rw [cancelR, if_pos HOK.out, if_pos ⟨j, HJ.out, HJE.out⟩])
      have O6 := Lib.hid (o6.base B4.out.size)
      have B6 := Lib.hid (B5.out.grown g6 B5.out.size (by intro k hk; injection hk with hk; have := HG.out; have := B4.out.size; omega))
      clear hr o6 g6 HW
      go_wp2_with fail
      exact bodyPost_ret (v := .tuple #[.slice (some ⟨g, 0, none⟩) r.length c1, .int .i64 0]) (by simp [results, Try.results13, go_sem]) rfl ⟨some ⟨g, 0, none⟩, c1, r, 0, rfl, ⟨HE.out.symm, fun q => absurd rfl q, fun _ => ⟨HR.out.1, HR.out.2.trans (erase_id HOK.out.noTwo HJ.out HJE.out)⟩⟩, O6.out, B6.out⟩
    · have B4 := Lib.hid (below3 B3.out b4)
      have HE := Lib.hid (show (cancelR l id).1 = 5 by rw [cancelR, if_pos HOK.out, if_neg hno])
      clear hno b4 HC
      go_wp2_with fail
      exact bodyPost_ret (v := .tuple #[.slice none 0 0, .int .i64 5]) (by simp [results, Try.results13, go_sem]) rfl (RetE.none_ 5 rfl (CancelSpec.err (by exact HE.out) (by omega)) B4.out)
  · rw [if_neg hok]
    have HE := Lib.hid (show (cancelR l id).1 = 1 by rw [cancelR, if_neg hok])
    clear hok
    go_wp2_with fail
    exact bodyPost_ret (v := .tuple #[.slice none 0 0, .int .i64 1]) (by simp [results, Try.results13, go_sem]) rfl (RetE.none_ 1 rfl (CancelSpec.err (by exact HE.out) (by omega)) B1.out)

theorem cellsP_set1 : ∀ (l : List Tm) (i : Nat) (x : Int), i < l.length → (cellsP l).set (i * 2) (.int .i64 x) = cellsP (l.set i (x, jA l i))
  | [], _, _, h => by simp at h
  | t :: l, 0, x, _ => by simp [cellsP, cells2, jA, ith]
  | t :: l, i + 1, x, h => by
    have ih := cellsP_set1 l i x (by simpa using h)
    have e : cellsP (t :: l) = [Value.int .i64 t.1, .int .i64 t.2] ++ cellsP l := by simp [cellsP, cells2]
    have e1 : jA (t :: l) (i + 1) = jA l i := by simp [jA, ith]
    have e2 : cellsP ((t :: l).set (i + 1) (x, jA (t :: l) (i + 1))) = [Value.int .i64 t.1, .int .i64 t.2] ++ cellsP (l.set i (x, jA l i)) := by rw [e1]; simp [cellsP, cells2]
    rw [e, e2, ← ih, show (i + 1) * 2 = i * 2 + 2 by omega]
    simp
theorem OwnT.put1 {w : World} {base g c : Nat} {l : List Tm} (h : RowT w base g c l) {i : Nat} (hi : i < l.length) {x : Int} (hx : Fit x) : RowT (w.setCell ⟨g, i * 2, none⟩ (.int .i64 x)) base g c (l.set i (x, jA l i)) := by
  have hf := h.fit hi
  obtain ⟨h1, h2, h3⟩ := h
  refine ⟨by rw [List.length_set]; exact h1, fun y hy => ?_, ?_⟩
  · rcases List.mem_or_eq_of_mem_set hy with h | h
    · exact h2 y h
    · rw [h]; exact ⟨hx, hf.2⟩
  · have a := (h3.stored (i * 2) (.int .i64 x)).1
    rw [cellsP_set1 _ _ _ hi] at a
    rw [List.length_set]
    exact a

set_option maxHeartbeats 2000000 in
theorem preset_any (A : Option Addr) (n c : Nat) (l : List Tm) (id at_ : Int) (w : World) (hx : Tms w A n c l) (fa : Fit at_) :
    Calls Try.prog 15 #[.slice A n c, .int .i64 id, .int .i64 at_] w (RetE (ResetSpec l id at_) w) := by
  have HX := Lib.hid hx
  have LX := Lib.hid hx.1
  have FA := Lib.hid fa
  clear hx fa
  go_enter Try.func15, Try.ntmps15
  go_wp2_with fail
  refine (pcheck_any A n c l _ HX.out).mono ?_
  rintro e w1 ⟨rfl, b1⟩
  have B1 := Lib.hid b1
  clear b1
  by_cases hok : heapOk l
  · rw [if_pos hok]
    have HOK := Lib.hid hok
    have hn : n ≤ 999 := by have := hok.1; have := LX.out; omega
    clear hok
    go_wp2_with fail
    refine (istime_any at_ _).mono ?_
    rintro e w2 ⟨rfl, rfl⟩
    cases htm : timeZ at_ with
    | true =>
      have HT := Lib.hid (of_decide_eq_true htm)
      clear htm
      go_wp2_with fail
      refine (of_any id _).mono ?_
      rintro e w3 ⟨rfl, hw3⟩
      have b3 := (Below.refl w2.heap.size w2).alloc (Nat.le_refl _) (.cells #[.int .i64 id] 2)
      have k3 := Bk.new w2 2 #[.int .i64 id]
      rw [← hw3] at b3 k3
      have B3 := Lib.hid (below3 B1.out b3)
      have HC := Lib.hid (idx_any A n c l id w2.heap.size w3 (HX.out.below B3.out) k3)
      clear b3 k3 hw3
      go_wp2_with fail
      refine HC.out.mono ?_
      rintro e w4 (⟨j, rfl, hj, hje, b4⟩ | ⟨rfl, hno, b4⟩)
      · have B4 := Lib.hid (below3 B3.out b4)
        have HJ := Lib.hid hj
        have HJE := Lib.hid hje
        have hjn : j < n := by have := LX.out; omega
        clear hj hje b4 HC
        go_wp2_with fail
        refine (clone_any A n c l _ (HX.out.below B4.out) (by omega)).mono ?_
        rintro e w5 ⟨A1, c1, rfl, o1, b5⟩
        obtain ⟨g, rfl, hg⟩ := o1.some_ (by have := HJ.out; omega)
        obtain ⟨q0, q1, f0, f1⟩ := o1.at2 HJ.out
        have HG := Lib.hid hg
        have B5 := Lib.hid (below3 B4.out b5)
        have o6 := o1.put1 HJ.out FA.out
        have G6 := Lib.hid (grown_set (w := w5) (g := g) (i := j * 2) (.int .i64 at_))
        have HW := Lib.hid (settle_any w4.heap.size g c1 (l.set j (at_, jA l j)) j _ o6 (by rw [List.length_set]; exact HJ.out) (by rw [List.length_set]; have := LX.out; omega))
        rw [List.length_set, LX.out] at HW
        rw [LX.out]
        clear hg b5 o1 o6
        go_wp2_with fail
        refine HW.out.mono ?_
        rintro e w6 ⟨rfl, r, hr, lr, o7, g7⟩
        have HR := Lib.hid (reset_heap (x := (at_, jA l j)) HOK.out HJ.out ⟨HT.out.1, HT.out.2, (HOK.out.2 j HJ.out).1.2.2⟩ rfl hr)
        have HE := Lib.hid (show (resetR l id at_).1 = 0 by rw [resetR, if_pos ⟨HOK.out, HT.out⟩, if_pos ⟨j, HJ.out, HJE.out⟩])
        have O7 := Lib.hid (o7.base B4.out.size)
        have B7 := Lib.hid (B5.out.grown (gb_trans G6.out g7) B5.out.size (by intro k hk; injection hk with hk; have := HG.out; have := B4.out.size; omega))
        have LR := Lib.hid (show r.length = n by rw [lr, List.length_set, LX.out])
        clear hr o7 g7 HW lr
        go_wp2_with fail
        exact bodyPost_ret (v := .tuple #[.slice (some ⟨g, 0, none⟩) n c1, .int .i64 0]) (by simp [results, Try.results15, go_sem]) rfl ⟨some ⟨g, 0, none⟩, c1, r, 0, by rw [LR.out], ⟨HE.out.symm, fun q => absurd rfl q, fun _ => ⟨HR.out.1, by have := HR.out.2; rw [HJE.out] at this; exact this.trans ((erase_id HOK.out.noTwo HJ.out HJE.out).cons _)⟩⟩, O7.out, B7.out⟩
      · have B4 := Lib.hid (below3 B3.out b4)
        have HE := Lib.hid (show (resetR l id at_).1 = 5 by rw [resetR, if_pos ⟨HOK.out, HT.out⟩, if_neg hno])
        clear hno b4 HC
        go_wp2_with fail
        exact bodyPost_ret (v := .tuple #[.slice none 0 0, .int .i64 5]) (by simp [results, Try.results15, go_sem]) rfl (RetE.none_ 5 rfl (ResetSpec.err (by exact HE.out) (by omega)) B4.out)
    | false =>
      have HE := Lib.hid (show (resetR l id at_).1 = 1 by rw [resetR, if_neg (fun q => of_decide_eq_false htm q.2)])
      clear htm
      go_wp2_with fail
      exact bodyPost_ret (v := .tuple #[.slice none 0 0, .int .i64 1]) (by simp [results, Try.results15, go_sem]) rfl (RetE.none_ 1 rfl (ResetSpec.err (by exact HE.out) (by omega)) B1.out)
  · rw [if_neg hok]
    have HE := Lib.hid (show (resetR l id at_).1 = 1 by rw [resetR, if_neg (fun q => hok q.1)])
    clear hok
    go_wp2_with fail
    exact bodyPost_ret (v := .tuple #[.slice none 0 0, .int .i64 1]) (by simp [results, Try.results15, go_sem]) rfl (RetE.none_ 1 rfl (ResetSpec.err (by exact HE.out) (by omega)) B1.out)

/-- The first one of a heap is the first one in order. -/
theorem heap_first {l : List Tm} (h : heapOk l) (hl : l ≠ []) : ∃ r, l = ith l 0 :: r ∧ Srt (ith l 0 :: orderF r) ∧ orderF l = ith l 0 :: orderF r := by
  obtain ⟨x, r, rfl⟩ := List.exists_cons_of_ne_nil hl
  have e : ith (x :: r) 0 = x := rfl
  have hs : Srt (x :: orderF r) := List.pairwise_cons.2 ⟨fun y hy => by
    have hy2 : y ∈ x :: r := List.mem_cons_of_mem _ ((orderF_perm r).mem_iff.1 hy)
    obtain ⟨i, hi, rfl⟩ := List.mem_iff_getElem.1 hy2
    have := h.least i hi
    rwa [ith_get hi] at this, orderF_srt r⟩
  exact ⟨r, rfl, hs, orderF_of_srt hs ((orderF_perm r).cons x)⟩
theorem least_first {l : List Tm} (h : heapOk l) (hl : l ≠ []) : ith (orderF l) 0 = ith l 0 := by
  obtain ⟨r, _, _, h2⟩ := heap_first h hl
  rw [h2]
  rfl

set_option maxHeartbeats 2000000 in
theorem pleast_any (A : Option Addr) (n c : Nat) (l : List Tm) (w : World) (hx : Tms w A n c l) :
    Calls Try.prog 21 #[.slice A n c] w (RetB (.tuple #[.agg #[.int .i64 (leastR l).2.1, .int .i64 (leastR l).2.2], .int .i64 (leastR l).1]) w) := by
  have HX := Lib.hid hx
  have LX := Lib.hid hx.1
  have hnc := hx.2.1
  clear hx
  have k0 := Bk.new w 24 #[.int .i64 0, .int .i64 0]
  have b0 := (Below.refl w.heap.size w).alloc (Nat.le_refl _) (.cells #[.int .i64 0, .int .i64 0] 24)
  obtain ⟨W, hW⟩ : ∃ W, w.alloc (.cells #[.int .i64 0, .int .i64 0] 24) = W := ⟨_, rfl⟩
  rw [hW] at k0 b0
  have HW := Lib.hid hW
  have K0 := Lib.hid k0
  have B0 := Lib.hid b0
  clear k0 b0 hW
  obtain ⟨z, a1, a2, hz⟩ : ∃ z a1 a2, leastR l = (z, (a1, a2)) := ⟨_, _, _, rfl⟩
  rw [hz]
  have HZ := Lib.hid hz
  clear hz
  go_enter Try.func21, Try.ntmps21
  go_upto_region 1 with fail
  rw [HW.out]
  clear HW
  go_wp2_with fail
  refine (pcheck_any A n c l _ (HX.out.below B0.out)).mono ?_
  rintro e w1 ⟨rfl, b1⟩
  have B1 := Lib.hid (below3 B0.out b1)
  have K1 := Lib.hid (K0.out.below b1 K0.out.lt)
  clear b1
  have q0 : _ = some (Value.int .i64 0) := K1.out.cell 0
  have q1 : _ = some (Value.int .i64 0) := K1.out.cell 1
  have f0 := K1.out.frozen 0
  have f1 := K1.out.frozen 1
  have lq := K1.out.lt
  by_cases hok : heapOk l
  · rw [if_pos hok]
    by_cases h0 : n = 0
    · have HE := Lib.hid (show leastR l = (5, (0, 0)) by rw [leastR, if_pos hok, if_pos (by rw [LX.out]; exact h0)])
      have t0 : ((n : Int) == 0) = true := by simp; omega
      have K9 := Lib.hid (bk_set2 K1.out (.int .i64 0) (.int .i64 0))
      have B9 := Lib.hid (below_set2 B1.out (Nat.le_refl _) (.int .i64 0) (.int .i64 0))
      clear h0 hok
      go_wp2_with fail
      have r0 : _ = some (Value.int .i64 0) := K9.out.cell 0
      have r1 : _ = some (Value.int .i64 0) := K9.out.cell 1
      have e := HZ.out.symm.trans HE.out
      injection e with e1 e2
      injection e2 with e2 e3
      subst e1 e2 e3
      exact bodyPost_ret (v := .tuple #[.agg #[.int .i64 0, .int .i64 0], .int .i64 5]) (by simp [results, Try.results21, go_sem, r0, r1]) rfl ⟨rfl, B9.out⟩
    · have hl : l ≠ [] := fun q => h0 (by rw [← LX.out, q]; rfl)
      have hp : 0 < n := by omega
      have HE := Lib.hid (show leastR l = (0, ith l 0) by rw [leastR, if_pos hok, if_neg (by rw [LX.out]; exact h0), least_first hok hl])
      have t0 : ((n : Int) == 0) = false := by simp; omega
      have hi : ith l 0 = (a1, a2) := by
        have e := HZ.out.symm.trans HE.out
        injection e with _ e
        exact e.symm
      have hz0 : z = 0 := by
        have e := HZ.out.symm.trans HE.out
        injection e
      subst hz0
      obtain ⟨bL, oL, rfl, hbL, c0, c1⟩ := (HX.out.below B1.out).at_ hp
      unfold jO at c0
      unfold jA at c1
      rw [hi] at c0 c1
      simp only [Nat.zero_mul, Nat.add_zero] at c0 c1
      have K9 := Lib.hid (bk_set2 K1.out (.int .i64 a1) (.int .i64 a2))
      have B9 := Lib.hid (below_set2 B1.out (Nat.le_refl _) (.int .i64 a1) (.int .i64 a2))
      clear h0 hok hl hi
      go_wp2_with fail
      have r0 : _ = some (Value.int .i64 a1) := K9.out.cell 0
      have r1 : _ = some (Value.int .i64 a2) := K9.out.cell 1
      exact bodyPost_ret (v := .tuple #[.agg #[.int .i64 a1, .int .i64 a2], .int .i64 0]) (by simp [results, Try.results21, go_sem, r0, r1]) rfl ⟨rfl, B9.out⟩
  · rw [if_neg hok]
    have HE := Lib.hid (show leastR l = (1, (0, 0)) by rw [leastR, if_neg hok])
    have K9 := Lib.hid (bk_set2 K1.out (.int .i64 0) (.int .i64 0))
    have B9 := Lib.hid (below_set2 B1.out (Nat.le_refl _) (.int .i64 0) (.int .i64 0))
    clear hok
    go_wp2_with fail
    have r0 : _ = some (Value.int .i64 0) := K9.out.cell 0
    have r1 : _ = some (Value.int .i64 0) := K9.out.cell 1
    have e := HZ.out.symm.trans HE.out
    injection e with e1 e2
    injection e2 with e2 e3
    subst e1 e2 e3
    exact bodyPost_ret (v := .tuple #[.agg #[.int .i64 0, .int .i64 0], .int .i64 1]) (by simp [results, Try.results21, go_sem, r0, r1]) rfl ⟨rfl, B9.out⟩

/-! ### Expire -/
/-- What a heap comes to when those ds have been taken out of it. -/
structure ExpS (l : List Tm) (now : Int) (ds m : List Tm) : Prop where
  ok : heapOk m
  due : ∀ t ∈ ds, t.1 ≤ now
  ord : orderF l = ds ++ orderF m
theorem ExpS.len {l : List Tm} {now : Int} {ds m : List Tm} (h : ExpS l now ds m) : ds.length + m.length = l.length := by
  have := congrArg List.length h.ord
  rw [List.length_append, orderF_len, orderF_len] at this
  omega
theorem ExpS.step {l : List Tm} {now : Int} {ds m r : List Tm} (h : ExpS l now ds m) (hm : m ≠ []) (ht : (ith m 0).1 ≤ now) (hr : heapOk r) (hp : r.Perm (m.eraseIdx 0)) : ExpS l now (ds ++ [ith m 0]) r := by
  obtain ⟨r', e, _, ho⟩ := heap_first h.ok hm
  refine ⟨hr, fun t hq => ?_, ?_⟩
  · rcases List.mem_append.1 hq with q | q
    · exact h.due t q
    · rw [List.mem_singleton.1 q]; exact ht
  · have hr2 : r.Perm r' := by
      have : m.eraseIdx 0 = r' := by rw [e]; rfl
      rw [this] at hp; exact hp
    rw [h.ord, ho, orderF_eq_iff.2 hr2, List.append_assoc]
    rfl
theorem ExpS.done {l : List Tm} {now : Int} {ds m : List Tm} (h : ExpS l now ds m) (hm : m = [] ∨ ¬ (ith m 0).1 ≤ now) (hl : heapOk l) : ExpireSpec l now 0 (ds.map (·.2)) m := by
  have hlate : ∀ t ∈ m, ¬ t.1 ≤ now := by
    rcases hm with rfl | hm
    · intro t ht; cases ht
    · intro t ht q
      obtain ⟨i, hi, rfl⟩ := List.mem_iff_getElem.1 ht
      have := h.ok.least i hi
      rw [ith_get hi] at this
      unfold leT lessT at this
      omega
  refine ⟨by rw [expireR, if_pos hl], fun q => absurd rfl q, fun _ => ⟨?_, h.ok, ?_⟩⟩
  · unfold dueL
    rw [h.ord, List.filter_append]
    have e1 : ds.filter (fun t => decide (t.1 ≤ now)) = ds := List.filter_eq_self.2 (fun t ht => by simpa using h.due t ht)
    have e2 : (orderF m).filter (fun t => decide (t.1 ≤ now)) = [] := List.filter_eq_nil_iff.2 (fun t ht => by simpa using hlate t ((orderF_perm m).mem_iff.1 ht))
    rw [e1, e2, List.append_nil]
  · have hp : (ds ++ m).Perm l := ((orderF_perm m).symm.append_left ds).trans ((List.Perm.of_eq h.ord.symm).trans (orderF_perm l))
    unfold leftL
    refine List.Perm.trans ?_ (hp.filter _)
    rw [List.filter_append]
    have e1 : ds.filter (fun t => !decide (t.1 ≤ now)) = [] := List.filter_eq_nil_iff.2 (fun t ht => by simpa using h.due t ht)
    have e2 : m.filter (fun t => !decide (t.1 ≤ now)) = m := List.filter_eq_self.2 (fun t ht => by have := hlate t ht; simpa using this)
    rw [e1, e2]
    exact List.Perm.refl _
/-- An error's number, ids, and a list, that fit a word. -/
def RetX (R : Int → List Int → List Tm → Prop) (w : World) (e : Ending) (w' : World) : Prop :=
  ∃ A c xs B d a z, e = .returned (.tuple #[.slice A xs.length c, .slice B a.length d, .int .i64 z]) ∧ R z xs a ∧ OwnI 2 w' w.heap.size A c xs ∧ OwnT 24 w' w.heap.size B d a ∧ Below w.heap.size w w'

set_option maxHeartbeats 2000000 in
theorem pexpire_any (A : Option Addr) (n c : Nat) (l : List Tm) (now : Int) (w : World) (hx : Tms w A n c l) :
    Calls Try.prog 23 #[.slice A n c, .int .i64 now] w (RetX (ExpireSpec l now) w) := by
  have HX := Lib.hid hx
  have LX := Lib.hid hx.1
  clear hx
  go_enter Try.func23, Try.ntmps23
  go_wp2_with fail
  refine (pcheck_any A n c l _ HX.out).mono ?_
  rintro e w1 ⟨rfl, b1⟩
  have B1 := Lib.hid b1
  clear b1
  by_cases hok : heapOk l
  · rw [if_pos hok]
    have HOK := Lib.hid hok
    have HN := Lib.hid (show l.length ≤ 256 from hok.1)
    have hn : n ≤ 256 := by have := hok.1; have := LX.out; omega
    clear hok
    go_wp2_with fail
    refine (clone_any A n c l _ (HX.out.below B1.out) (by omega)).mono ?_
    rintro e w2 ⟨A2, c2, rfl, o2, b2⟩
    have E0 := Lib.hid (⟨(OwnI.nil_ _ _ _), o2, b2⟩ : ExI w1 w2 none 0 [] A2 c2 l)
    have S0 := Lib.hid (⟨HOK.out, fun t h => by (cases h), rfl⟩ : ExpS l now [] l)
    clear o2 b2
    go_wp2_with fail
    go_loopw [8, 9] (fun u8 u9 wr => ∃ Ad cd ds Al cl m, u8 = .slice Ad (List.map (fun t : Tm => t.2) ds).length cd ∧ u9 = .slice Al m.length cl ∧ Hid (ExI w1 wr Ad cd (List.map (fun t : Tm => t.2) ds) Al cl m) ∧ Hid (ExpS l now ds m)) (fun _ u9 _ => (match u9 with | .slice _ k _ => k | _ => 0))
    case atStart => exact ⟨none, 0, [], A2, c2, l, rfl, rfl, E0, S0⟩
    case round =>
      clear E0 S0
      rename World => wr
      obtain ⟨Ad, cd, ds, Al, cl, m, rfl, rfl, EI, ES⟩ := hrel
      obtain ⟨xs, hxs⟩ : ∃ xs, List.map (fun t : Tm => t.2) ds = xs := ⟨_, rfl⟩
      rw [hxs] at EI ⊢
      have HXS := Lib.hid hxs
      have hxl : xs.length = ds.length := by rw [← hxs, List.length_map]
      have hlen := ES.out.len
      have hml : m.length ≤ 256 := by have := HN.out; omega
      have hxl2 : xs.length ≤ 256 := by have := HN.out; omega
      clear hxs hxl hlen
      by_cases h0 : 0 < m.length
      · obtain ⟨g, rfl, hg⟩ := EI.out.o.some_ h0
        have HM0 := Lib.hid (show m ≠ [] from fun q => by rw [q] at h0; exact absurd h0 (by decide))
        obtain ⟨⟨z1, z2⟩, hz⟩ : ∃ z, ith m 0 = z := ⟨_, rfl⟩
        obtain ⟨q0, q1⟩ := OwnT.here (show RowT _ _ _ _ _ from EI.out.o) h0 hz
        have fz : FitI (z1, z2) := by rw [← hz]; exact OwnT.fit (show RowT _ _ _ _ _ from EI.out.o) h0
        simp only [Nat.zero_mul, Nat.zero_add] at q0 q1
        have HZ := Lib.hid hz
        have HG := Lib.hid hg
        have hcap := OwnT.cap (show RowT _ _ _ _ _ from EI.out.o)
        obtain ⟨k, hk⟩ : ∃ k, m.length = k := ⟨_, rfl⟩
        have HK := Lib.hid hk
        rw [hk] at h0 hml hcap ⊢
        have t0 : decide (0 < (k : Int)) = true := decide_eq_true (by omega)
        clear hz hg hk
        by_cases hz1 : z1 ≤ now
        · have t1 : decide (z1 ≤ now) = true := decide_eq_true hz1
          have HZ1 := Lib.hid hz1
          have E4 := Lib.hid (EI.out.below ((Below.refl wr.heap.size wr).alloc (Nat.le_refl _) (.cells #[.int .i64 z2] 2)))
          have T1 := Lib.hid (ints1 wr 2 fz.2)
          have hsz := EI.out.bl.size
          clear hz1 fz
          go_wp2_with (at_builtin; refine wpList_append_ints _ rfl _ _ 37 rfl 2 Try.underlying37 infoI8 w1.heap.size Ad cd xs _ rfl rfl E4.out.i (some ⟨wr.heap.size, 0, none⟩) 1 1 [z2] rfl T1.out (by omega) (by simp; omega) ?_; intro Ad2 cd2 w4 ho hgr; have E5 := Lib.hid (ExI.appI E4.out ho hgr); clear ho hgr q0 q1 T1 E4)
          have HW := Lib.hid (without_any w1.heap.size g cl m 0 w4 E5.out.o (by rw [HK.out]; exact h0) (by rw [HK.out]; omega))
          rw [HK.out] at HW
          refine HW.out.mono ?_
          rintro e w6 ⟨r, rfl, hr, o6, g6⟩
          have HR := Lib.hid (wout_heap ES.out.ok (by rw [HK.out]; exact h0) hr)
          have E6 := Lib.hid (ExI.appT E5.out o6 g6)
          have S6 := Lib.hid (ES.out.step HM0.out (by rw [HZ.out]; exact HZ1.out) HR.out.1 HR.out.2)
          rw [HZ.out] at S6
          have LR := Lib.hid (show r.length < k by rw [HR.out.2.length_eq, List.length_eraseIdx, HK.out]; split <;> omega)
          clear hr o6 g6 HW E5
          go_wp2_with fail
          go_roundw
          case rel => exact ⟨Ad2, cd2, ds ++ [(z1, z2)], some ⟨g, 0, none⟩, cl, r, by rw [List.map_append, HXS.out]; simp, rfl, by rw [List.map_append, HXS.out]; exact E6, S6⟩
          case measure => have := LR.out; simpa using this
        · have t1 : decide (z1 ≤ now) = false := decide_eq_false hz1
          have HD := Lib.hid (ES.out.done (.inr (by rw [HZ.out]; exact hz1)) HOK.out)
          rw [HXS.out] at HD
          have BB := Lib.hid (below3 B1.out EI.out.bl)
          clear hz1 fz
          go_wp2_with fail
          exact bodyPost_ret (v := .tuple #[.slice Ad xs.length cd, .slice (some ⟨g, 0, none⟩) k cl, .int .i64 0]) (by simp [results, Try.results23, go_sem]) rfl ⟨Ad, cd, xs, some ⟨g, 0, none⟩, cl, m, 0, by rw [HK.out], HD.out, EI.out.i.base B1.out.size, EI.out.o.base B1.out.size, BB.out⟩
      · have hm : m = [] := List.eq_nil_of_length_eq_zero (by omega)
        subst hm
        have HD := Lib.hid (ES.out.done (.inl rfl) HOK.out)
        rw [HXS.out] at HD
        have BB := Lib.hid (below3 B1.out EI.out.bl)
        clear h0
        go_wp2_with fail
        exact bodyPost_ret (v := .tuple #[.slice Ad xs.length cd, .slice Al 0 cl, .int .i64 0]) (by simp [results, Try.results23, go_sem]) rfl ⟨Ad, cd, xs, Al, cl, [], 0, rfl, HD.out, EI.out.i.base B1.out.size, EI.out.o.base B1.out.size, BB.out⟩
  · rw [if_neg hok]
    have HE := Lib.hid (show ExpireSpec l now 1 [] [] from ⟨by rw [expireR, if_neg hok], fun _ => ⟨rfl, rfl⟩, fun q => absurd q (by omega)⟩)
    clear hok
    go_wp2_with fail
    exact bodyPost_ret (v := .tuple #[.slice none 0 0, .slice none 0 0, .int .i64 1]) (by simp [results, Try.results23, go_sem]) rfl ⟨none, 0, [], none, 0, [], 1, rfl, HE.out, OwnI.nil_ _ _ _, OwnT.nil_ _ _ _, B1.out⟩

end Go.Proofs.Ytjamoafihmcmeaa

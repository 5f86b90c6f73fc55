/-
  The document's layer 8: Add, Reset, Least.
-/
import Derived.Test.YtjamoafihmcmeaaTg
namespace Go.Proofs.Ytjamoafihmcmeaa
open Go.RowKit

set_option maxHeartbeats 2000000 in
theorem add_any (A : Option Addr) (n c : Nat) (l : List Tm) (t1 t2 : Int) (w : World) (hx : Tms w A n c l) (f1 : Fit t1) (f2 : Fit t2) (hn : n ≤ 1000) :
    Calls Try.prog 12 #[.slice A n c, .agg #[.int .i64 t1, .int .i64 t2]] w (ListR (addR l (t1, t2)) w) := by
  have HX := Lib.hid hx
  have LX := Lib.hid hx.1
  have F1 := Lib.hid f1
  have F2 := Lib.hid f2
  clear hx f1 f2
  unfold addR
  by_cases hok : heapOk l
  · by_cases hmy : mayT (t1, t2)
    · rw [if_pos ⟨hok, hmy⟩]
      by_cases hid : hasId l t2
      · rw [if_pos hid]
        have k0 := Bk.new w 24 #[.int .i64 t1, .int .i64 t2]
        have b0 := (Below.refl w.heap.size w).alloc (Nat.le_refl _) (.cells #[.int .i64 t1, .int .i64 t2] 24)
        obtain ⟨W, hW⟩ : ∃ W, w.alloc (.cells #[.int .i64 t1, .int .i64 t2] 24) = W := ⟨_, rfl⟩
        rw [hW] at k0 b0
        have HW := Lib.hid hW
        have K0 := Lib.hid k0
        have B0 := Lib.hid b0
        clear k0 b0 hW
        go_enter Try.func12, Try.ntmps12
        go_upto_region 1 with fail
        rw [HW.out]
        clear HW
        go_wp2_with fail
        refine (rcheck_any A n c l _ (HX.out.below B0.out)).mono ?_
        rw [if_pos hok]
        rintro e w1 ⟨rfl, b1⟩
        have B1 := Lib.hid (below3 B0.out b1)
        have K1 := Lib.hid (K0.out.below b1 K0.out.lt)
        clear b1
        have a0 : _ = some (Value.int .i64 t1) := K1.out.cell 0
        have a1 : _ = some (Value.int .i64 t2) := K1.out.cell 1
        have la := K1.out.lt
        go_wp2_with fail
        refine (mayt_any t1 t2 _).mono ?_
        rw [decide_eq_true hmy]
        rintro e w2 ⟨rfl, b2⟩
        have B2 := Lib.hid (below3 B1.out b2)
        have K2 := Lib.hid (K1.out.below b2 K1.out.lt)
        clear b2
        clear a0 a1 la
        have a0 : _ = some (Value.int .i64 t1) := K2.out.cell 0
        have a1 : _ = some (Value.int .i64 t2) := K2.out.cell 1
        have la := K2.out.lt
        go_wp2_with fail
        refine (at8_any A n c l t2 _ (HX.out.below B2.out)).mono ?_
        rintro e w3 ⟨r, rfl, hr, b3⟩
        have B3 := Lib.hid (below3 B2.out b3)
        have K3 := Lib.hid (K2.out.below b3 K2.out.lt)
        have hr2 : 0 ≤ r := hr.2 hid
        clear b3 hr
        clear a0 a1 la
        go_wp2
        exact bodyPost_ret (v := .tuple #[.slice none 0 0, .int .i64 6]) (by simp [results, Try.results12, go_sem]) rfl ⟨none, 0, rfl, OwnT.nil_ _ _ _, B3.out⟩
      · rw [if_neg hid]
        by_cases h256 : n = 256
        · rw [if_pos (LX.out.trans h256)]
          have hb : ((n : Int) == 256) = true := by simp; omega
          clear h256
          have k0 := Bk.new w 24 #[.int .i64 t1, .int .i64 t2]
          have b0 := (Below.refl w.heap.size w).alloc (Nat.le_refl _) (.cells #[.int .i64 t1, .int .i64 t2] 24)
          obtain ⟨W, hW⟩ : ∃ W, w.alloc (.cells #[.int .i64 t1, .int .i64 t2] 24) = W := ⟨_, rfl⟩
          rw [hW] at k0 b0
          have HW := Lib.hid hW
          have K0 := Lib.hid k0
          have B0 := Lib.hid b0
          clear k0 b0 hW
          go_enter Try.func12, Try.ntmps12
          go_upto_region 1 with fail
          rw [HW.out]
          clear HW
          go_wp2_with fail
          refine (rcheck_any A n c l _ (HX.out.below B0.out)).mono ?_
          rw [if_pos hok]
          rintro e w1 ⟨rfl, b1⟩
          have B1 := Lib.hid (below3 B0.out b1)
          have K1 := Lib.hid (K0.out.below b1 K0.out.lt)
          clear b1
          have a0 : _ = some (Value.int .i64 t1) := K1.out.cell 0
          have a1 : _ = some (Value.int .i64 t2) := K1.out.cell 1
          have la := K1.out.lt
          go_wp2_with fail
          refine (mayt_any t1 t2 _).mono ?_
          rw [decide_eq_true hmy]
          rintro e w2 ⟨rfl, b2⟩
          have B2 := Lib.hid (below3 B1.out b2)
          have K2 := Lib.hid (K1.out.below b2 K1.out.lt)
          clear b2
          clear a0 a1 la
          have a0 : _ = some (Value.int .i64 t1) := K2.out.cell 0
          have a1 : _ = some (Value.int .i64 t2) := K2.out.cell 1
          have la := K2.out.lt
          go_wp2_with fail
          refine (at8_any A n c l t2 _ (HX.out.below B2.out)).mono ?_
          rintro e w3 ⟨r, rfl, hr, b3⟩
          have B3 := Lib.hid (below3 B2.out b3)
          have K3 := Lib.hid (K2.out.below b3 K2.out.lt)
          have hr2 : r < 0 := by rcases Int.lt_or_le r 0 with h | h; exact h; exact absurd (hr.1 h) hid
          clear b3 hr
          clear a0 a1 la
          go_wp2
          exact bodyPost_ret (v := .tuple #[.slice none 0 0, .int .i64 7]) (by simp [results, Try.results12, go_sem]) rfl ⟨none, 0, rfl, OwnT.nil_ _ _ _, B3.out⟩
        · rw [if_neg (fun q => h256 (LX.out.symm.trans q))]
          have hb : ((n : Int) == 256) = false := by simp; omega
          have k0 := Bk.new w 24 #[.int .i64 t1, .int .i64 t2]
          have b0 := (Below.refl w.heap.size w).alloc (Nat.le_refl _) (.cells #[.int .i64 t1, .int .i64 t2] 24)
          obtain ⟨W, hW⟩ : ∃ W, w.alloc (.cells #[.int .i64 t1, .int .i64 t2] 24) = W := ⟨_, rfl⟩
          rw [hW] at k0 b0
          have HW := Lib.hid hW
          have K0 := Lib.hid k0
          have B0 := Lib.hid b0
          clear k0 b0 hW
          go_enter Try.func12, Try.ntmps12
          go_upto_region 1 with fail
          rw [HW.out]
          clear HW
          go_wp2_with fail
          refine (rcheck_any A n c l _ (HX.out.below B0.out)).mono ?_
          rw [if_pos hok]
          rintro e w1 ⟨rfl, b1⟩
          have B1 := Lib.hid (below3 B0.out b1)
          have K1 := Lib.hid (K0.out.below b1 K0.out.lt)
          clear b1
          have a0 : _ = some (Value.int .i64 t1) := K1.out.cell 0
          have a1 : _ = some (Value.int .i64 t2) := K1.out.cell 1
          have la := K1.out.lt
          go_wp2_with fail
          refine (mayt_any t1 t2 _).mono ?_
          rw [decide_eq_true hmy]
          rintro e w2 ⟨rfl, b2⟩
          have B2 := Lib.hid (below3 B1.out b2)
          have K2 := Lib.hid (K1.out.below b2 K1.out.lt)
          clear b2
          clear a0 a1 la
          have a0 : _ = some (Value.int .i64 t1) := K2.out.cell 0
          have a1 : _ = some (Value.int .i64 t2) := K2.out.cell 1
          have la := K2.out.lt
          go_wp2_with fail
          refine (at8_any A n c l t2 _ (HX.out.below B2.out)).mono ?_
          rintro e w3 ⟨r, rfl, hr, b3⟩
          have B3 := Lib.hid (below3 B2.out b3)
          have K3 := Lib.hid (K2.out.below b3 K2.out.lt)
          have hr2 : r < 0 := by rcases Int.lt_or_le r 0 with h | h; exact h; exact absurd (hr.1 h) hid
          clear b3 hr
          clear a0 a1 la
          go_wp2_with fail
          have hS0 := K3.out.drew
          have hB0 := B3.out.drew
          refine wp_region_held (S := fun U => Bk U w.heap.size 24 #[.int .i64 t1, .int .i64 t2]) (by kernel_rfl) ?_
          change wpAnyH _ _ _ _ _ _ _ _ (World.drew w3)
          generalize w3.drew = U0 at hS0 hB0 ⊢
          refine take_at (i := 0) (d := 22) (v := .slice A n c) rfl rfl (by kernel_rfl) (by kernel_rfl) (by kernel_rfl) (fun _ _ _ h => h) (.inl ⟨by kernel_rfl, fun U hU => by go_simp⟩) hS0 ?_
          simp only [Act.put, List.setIfInBounds_toArray, List.set_cons_zero, List.set_cons_succ]
          refine take_at (i := 2) (d := 24) (v := .agg #[.int .i64 t1, .int .i64 t2]) rfl rfl (by kernel_rfl) (by kernel_rfl) (by kernel_rfl) (fun _ _ _ h => h) (.inl ⟨by kernel_rfl, fun U hU => by have z0 : _ = some (Value.int .i64 t1) := hU.cell 0; have z1 : _ = some (Value.int .i64 t2) := hU.cell 1; go_simp⟩) hS0 ?_
          simp only [Act.put, List.setIfInBounds_toArray, List.set_cons_zero, List.set_cons_succ]
          refine wpAnyH_all (rs := [1]) (by kernel_rfl) (by simp) ?_
          intro i hi
          simp only [List.mem_cons, List.not_mem_nil, or_false] at hi
          subst hi
          unfold wpOp
          go_simp
          left
          refine (order_any A n c l _ (HX.out.below hB0) hn).mono ?_
          rintro e U1 ⟨A3, c3, rfl, o3, b3⟩
          have hS1 := hS0.below b3 hS0.lt
          have hB1 := below3 hB0 b3
          refine ⟨hS1, ?_⟩
          have O3 := Lib.hid o3
          clear o3 b3
          try simp only [Act.put, List.setIfInBounds_toArray, List.set_cons_zero, List.set_cons_succ]
          refine wpAnyH_all (rs := [3]) (by kernel_rfl) (by simp) ?_
          intro i hi
          simp only [List.mem_cons, List.not_mem_nil, or_false] at hi
          subst hi
          unfold wpOp
          go_simp
          left
          refine (with_any A3 _ c3 (orderF l) t1 t2 _ O3.out.tms F1.out F2.out (by rw [orderF_len, LX.out]; omega)).mono ?_
          rintro e U2 ⟨A4, c4, rfl, o4, b4⟩
          have hS2 := hS1.below b4 hS1.lt
          have hB2 := Lib.hid (below3 hB1 b4)
          have O4 := Lib.hid (o4.base hB1.size)
          refine ⟨hS2, ?_⟩
          clear o4 b4 hB0 hB1
          try simp only [Act.put, List.setIfInBounds_toArray, List.set_cons_zero, List.set_cons_succ]
          refine take_at (i := 4) (d := 4) (v := .slice A4 (withF (orderF l) (t1, t2)).length c4) rfl rfl (by kernel_rfl) (by kernel_rfl) (by kernel_rfl) (fun _ _ _ h => h) (.inl ⟨by kernel_rfl, fun U hU => by go_simp⟩) hS2 ?_
          simp only [Act.put, List.setIfInBounds_toArray, List.set_cons_zero, List.set_cons_succ]
          refine take_at (i := 5) (d := 5) (v := .int .i64 0) rfl rfl (by kernel_rfl) (by kernel_rfl) (by kernel_rfl) (fun _ _ _ h => h) (.inl ⟨by kernel_rfl, fun U hU => by go_simp⟩) hS2 ?_
          simp only [Act.put, List.setIfInBounds_toArray, List.set_cons_zero, List.set_cons_succ]
          refine wpAnyH_done (by kernel_rfl) ?_ _
          clear hS0 hS1 hS2
          go_wp2
          exact bodyPost_ret (v := .tuple #[.slice A4 (withF (orderF l) (t1, t2)).length c4, .int .i64 0]) (by simp [results, Try.results12, go_sem]) rfl ⟨A4, c4, rfl, O4.out, hB2.out⟩
    · rw [if_neg (fun q => hmy q.2)]
      have k0 := Bk.new w 24 #[.int .i64 t1, .int .i64 t2]
      have b0 := (Below.refl w.heap.size w).alloc (Nat.le_refl _) (.cells #[.int .i64 t1, .int .i64 t2] 24)
      obtain ⟨W, hW⟩ : ∃ W, w.alloc (.cells #[.int .i64 t1, .int .i64 t2] 24) = W := ⟨_, rfl⟩
      rw [hW] at k0 b0
      have HW := Lib.hid hW
      have K0 := Lib.hid k0
      have B0 := Lib.hid b0
      clear k0 b0 hW
      go_enter Try.func12, Try.ntmps12
      go_upto_region 1 with fail
      rw [HW.out]
      clear HW
      go_wp2_with fail
      refine (rcheck_any A n c l _ (HX.out.below B0.out)).mono ?_
      rw [if_pos hok]
      rintro e w1 ⟨rfl, b1⟩
      have B1 := Lib.hid (below3 B0.out b1)
      have K1 := Lib.hid (K0.out.below b1 K0.out.lt)
      clear b1
      have a0 : _ = some (Value.int .i64 t1) := K1.out.cell 0
      have a1 : _ = some (Value.int .i64 t2) := K1.out.cell 1
      have la := K1.out.lt
      go_wp2_with fail
      refine (mayt_any t1 t2 _).mono ?_
      rw [decide_eq_false hmy]
      rintro e w2 ⟨rfl, b2⟩
      have B2 := Lib.hid (below3 B1.out b2)
      have K2 := Lib.hid (K1.out.below b2 K1.out.lt)
      clear b2
      clear a0 a1 la
      go_wp2
      exact bodyPost_ret (v := .tuple #[.slice none 0 0, .int .i64 1]) (by simp [results, Try.results12, go_sem]) rfl ⟨none, 0, rfl, OwnT.nil_ _ _ _, B2.out⟩
  · rw [if_neg (fun q => hok q.1)]
    have k0 := Bk.new w 24 #[.int .i64 t1, .int .i64 t2]
    have b0 := (Below.refl w.heap.size w).alloc (Nat.le_refl _) (.cells #[.int .i64 t1, .int .i64 t2] 24)
    obtain ⟨W, hW⟩ : ∃ W, w.alloc (.cells #[.int .i64 t1, .int .i64 t2] 24) = W := ⟨_, rfl⟩
    rw [hW] at k0 b0
    have HW := Lib.hid hW
    have K0 := Lib.hid k0
    have B0 := Lib.hid b0
    clear k0 b0 hW
    go_enter Try.func12, Try.ntmps12
    go_upto_region 1 with fail
    rw [HW.out]
    clear HW
    go_wp2_with fail
    refine (rcheck_any A n c l _ (HX.out.below B0.out)).mono ?_
    rw [if_neg hok]
    rintro e w1 ⟨rfl, b1⟩
    have B1 := Lib.hid (below3 B0.out b1)
    have K1 := Lib.hid (K0.out.below b1 K0.out.lt)
    clear b1
    go_wp2
    exact bodyPost_ret (v := .tuple #[.slice none 0 0, .int .i64 1]) (by simp [results, Try.results12, go_sem]) rfl ⟨none, 0, rfl, OwnT.nil_ _ _ _, B1.out⟩

set_option maxHeartbeats 2000000 in
theorem reset_any (A : Option Addr) (n c : Nat) (l : List Tm) (id at_ : Int) (w : World) (hx : Tms w A n c l) (fi : Fit id) (fa : Fit at_) (hn : n ≤ 1000) :
    Calls Try.prog 16 #[.slice A n c, .int .i64 id, .int .i64 at_] w (ListR (resetR l id at_) w) := by
  have HX := Lib.hid hx
  have LX := Lib.hid hx.1
  have FI := Lib.hid fi
  have FA := Lib.hid fa
  clear hx fi fa
  unfold resetR
  by_cases hok : heapOk l
  · by_cases h0 : 0 ≤ at_
    · by_cases h1 : at_ ≤ 1125899906842624
      · rw [if_pos ⟨hok, h0, h1⟩]
        by_cases hid : hasId l id
        · rw [if_pos hid]
          go_enter Try.func16, Try.ntmps16
          go_wp2_with fail
          refine (rcheck_any A n c l _ HX.out).mono ?_
          rw [if_pos hok]
          rintro e w1 ⟨rfl, b1⟩
          have B1 := Lib.hid b1
          clear b1
          have HC := Lib.hid (fun W h => cancel_any A n c l id W h hn)
          go_wp2_with fail
          refine (HC.out _ (HX.out.below B1.out)).mono ?_
          rw [show cancelR l id = (0, lessId (orderF l) id) by unfold cancelR; rw [if_pos hok, if_pos hid]]
          rintro e w2 ⟨A2, c2, rfl, o2, b2⟩
          have O2 := Lib.hid o2
          have B2 := Lib.hid (below3 B1.out b2)
          clear o2 b2 HC
          have hll : (lessId (orderF l) id).length ≤ n := by rw [← LX.out, ← orderF_len l]; exact List.length_filter_le _ _
          go_wp2_with fail
          refine (with_any A2 _ c2 (lessId (orderF l) id) at_ id _ O2.out.tms FA.out FI.out (by omega)).mono ?_
          rintro e w3 ⟨A3, c3, rfl, o3, b3⟩
          have O3 := Lib.hid (o3.base B2.out.size)
          have B3 := Lib.hid (below3 B2.out b3)
          clear o3 b3
          go_wp2
          exact bodyPost_ret (v := .tuple #[.slice A3 (withF (lessId (orderF l) id) (at_, id)).length c3, .int .i64 0]) (by simp [results, Try.results16, go_sem]) rfl ⟨A3, c3, rfl, O3.out, B3.out⟩
        · rw [if_neg hid]
          go_enter Try.func16, Try.ntmps16
          go_wp2_with fail
          refine (rcheck_any A n c l _ HX.out).mono ?_
          rw [if_pos hok]
          rintro e w1 ⟨rfl, b1⟩
          have B1 := Lib.hid b1
          clear b1
          have HC := Lib.hid (fun W h => cancel_any A n c l id W h hn)
          go_wp2_with fail
          refine (HC.out _ (HX.out.below B1.out)).mono ?_
          rw [show cancelR l id = (5, []) by unfold cancelR; rw [if_pos hok, if_neg hid]]
          rintro e w2 ⟨A2, c2, rfl, o2, b2⟩
          have O2 := Lib.hid o2
          have B2 := Lib.hid (below3 B1.out b2)
          clear o2 b2 HC
          go_wp2
          exact bodyPost_ret (v := .tuple #[.slice none 0 0, .int .i64 5]) (by simp [results, Try.results16, go_sem]) rfl ⟨none, 0, rfl, OwnT.nil_ _ _ _, B2.out⟩
      · rw [if_neg (fun q => h1 q.2.2)]
        go_enter Try.func16, Try.ntmps16
        go_wp2_with fail
        refine (rcheck_any A n c l _ HX.out).mono ?_
        rw [if_pos hok]
        rintro e w1 ⟨rfl, b1⟩
        have B1 := Lib.hid b1
        clear b1
        go_wp2
        exact bodyPost_ret (v := .tuple #[.slice none 0 0, .int .i64 1]) (by simp [results, Try.results16, go_sem]) rfl ⟨none, 0, rfl, OwnT.nil_ _ _ _, B1.out⟩
    · rw [if_neg (fun q => h0 q.2.1)]
      go_enter Try.func16, Try.ntmps16
      go_wp2_with fail
      refine (rcheck_any A n c l _ HX.out).mono ?_
      rw [if_pos hok]
      rintro e w1 ⟨rfl, b1⟩
      have B1 := Lib.hid b1
      clear b1
      go_wp2
      exact bodyPost_ret (v := .tuple #[.slice none 0 0, .int .i64 1]) (by simp [results, Try.results16, go_sem]) rfl ⟨none, 0, rfl, OwnT.nil_ _ _ _, B1.out⟩
  · rw [if_neg (fun q => hok q.1)]
    go_enter Try.func16, Try.ntmps16
    go_wp2_with fail
    refine (rcheck_any A n c l _ HX.out).mono ?_
    rw [if_neg hok]
    rintro e w1 ⟨rfl, b1⟩
    have B1 := Lib.hid b1
    clear b1
    go_wp2
    exact bodyPost_ret (v := .tuple #[.slice none 0 0, .int .i64 1]) (by simp [results, Try.results16, go_sem]) rfl ⟨none, 0, rfl, OwnT.nil_ _ _ _, B1.out⟩

end Go.Proofs.Ytjamoafihmcmeaa

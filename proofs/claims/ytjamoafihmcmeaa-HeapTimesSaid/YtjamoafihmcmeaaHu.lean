/-
  Layer 8, the program: whether two have the same timers: counted on, and off.
-/
import Derived.Test.YtjamoafihmcmeaaHq
namespace Go.Proofs.Ytjamoafihmcmeaa
open Go.RowKit

theorem take_count {l : List Tm} {k : Nat} (h : k < l.length) (y : Tm) : (l.take (k + 1)).count y = (l.take k).count y + (if y = ith l k then 1 else 0) := by
  rw [take_succ h, List.count_append, List.count_singleton]
  by_cases e : y = ith l k
  · subst e; simp
  · rw [if_neg e, if_neg (by simpa using fun q => e q.symm)]
theorem count_few (l : List Tm) (k : Nat) (y : Tm) : (l.take k).count y ≤ k := Nat.le_trans List.count_le_length (by rw [List.length_take]; omega)
theorem perm_of_counts : ∀ (ys xs : List Tm), ys.length = xs.length → (∀ y, ys.count y ≤ xs.count y) → xs.Perm ys
  | [], xs, h, _ => by
    rw [List.eq_nil_of_length_eq_zero (l := xs) (by simpa using h.symm)]
  | y :: ys, xs, h, hc => by
    have h1 := hc y
    rw [List.count_cons_self] at h1
    have hm : y ∈ xs := List.count_pos_iff.1 (by omega)
    have hp := List.perm_cons_erase hm
    refine hp.trans ((perm_of_counts ys (xs.erase y) ?_ fun z => ?_).cons y)
    · have := hp.length_eq
      simp only [List.length_cons] at this h
      omega
    · have h2 := hc z
      rw [hp.count_eq z, List.count_cons, List.count_cons] at h2
      omega
/-- What is left in the map. -/
def leftC (xs ys : List Tm) (y : Tm) : Int := (xs.count y : Int) - (ys.count y : Int)

set_option maxRecDepth 100000 in
set_option maxHeartbeats 4000000 in
theorem psame_any (A A' : Option Addr) (n c n' c' : Nat) (xs ys : List Tm) (w : World) (hx : Tms w A n c xs) (hy : Tms w A' n' c' ys) (hn : n ≤ 400) (hn' : n' ≤ 400) :
    Calls Try.prog 28 #[.slice A n c, .slice A' n' c'] w (RetB (.bool (decide (xs.Perm ys))) w) := by
  have HX := Lib.hid hx
  have LX := Lib.hid hx.1
  have HY := Lib.hid hy
  have LY := Lib.hid hy.1
  have hnc := hx.2.1
  have hnc' := hy.2.1
  obtain ⟨r, hr⟩ : ∃ r : Bool, decide (xs.Perm ys) = r := ⟨_, rfl⟩
  rw [hr]
  have HR := Lib.hid hr
  clear hx hy hr
  obtain ⟨b, hb⟩ : ∃ b, w.heap.size = b := ⟨_, rfl⟩
  have HBB := Lib.hid hb
  have M0 := Lib.hid ((CntM.made w).same (g := leftC (xs.take 0) []) (fun y => by simp [leftC]))
  have B0 := Lib.hid ((Below.refl w.heap.size w).alloc (Nat.le_refl _) (.map #[] 0))
  rw [hb] at M0
  have mk : ∀ w, (Instr.makeMap 75 none).run Try.prog w = .ok (.map (some w.heap.size)) (w.alloc (.map #[] 0)) := fun w => rfl
  clear hb
  go_enter Try.func28, Try.ntmps28
  go_wp2_with fail
  rw [HBB.out]
  go_loopw [13] (fun t wr => ∃ k : Nat, k ≤ n ∧ t = .int .i64 k ∧ Hid (CntM wr b k (leftC (xs.take k) [])) ∧ Hid (Below w.heap.size w wr)) (fun t _ => n - (intOf t).toNat)
  case atStart => exact ⟨0, Nat.zero_le _, rfl, M0, B0⟩
  case round =>
    clear M0 B0
    rename World => wr
    obtain ⟨k, hk, rfl, CM, BW⟩ := hrel
    by_cases hkn : k < n
    · obtain ⟨bA, oA, rfl, hbA, c0, c1⟩ := (HX.out.below BW.out).at_ hkn
      obtain ⟨fa, fb⟩ := HX.out.fit hkn
      have hkl : k < xs.length := by rw [LX.out]; exact hkn
      obtain ⟨x1, hx1⟩ : ∃ z, jO xs k = z := ⟨_, rfl⟩
      obtain ⟨x2, hx2⟩ : ∃ z, jA xs k = z := ⟨_, rfl⟩
      have HZ := Lib.hid (show ith xs k = (x1, x2) by rw [← hx1, ← hx2]; rfl)
      rw [hx1] at c0 fa
      rw [hx2] at c1 fb
      have FX : Hid (FitI (x1, x2)) := Lib.hid ⟨fa, fb⟩
      obtain ⟨cx, hcx⟩ : ∃ z, leftC (xs.take k) [] (x1, x2) = z := ⟨_, rfl⟩
      have hc0 : 0 ≤ cx ∧ cx ≤ 400 := by
        have := count_few xs k (x1, x2)
        rw [← hcx]; unfold leftC; simp; omega
      have HCX := Lib.hid hcx
      have HN := Lib.hid (show ∀ y, updT (leftC (xs.take k) []) (x1, x2) (cx + 1) y = leftC (xs.take (k + 1)) [] y from fun y => by
        unfold updT
        by_cases e : y = (x1, x2)
        · rw [if_pos e, ← hcx]
          unfold leftC
          rw [take_count hkl, HZ.out, if_pos e, e]
          first | (simp; done) | (simp; omega)
        · rw [if_neg e]
          unfold leftC
          rw [take_count hkl, HZ.out, if_neg e]
          simp)
      have hbl := CM.out.lt
      have k1 := Bk.new wr 24 #[.int .i64 x1, .int .i64 x2]
      have b1 := (Below.refl wr.heap.size wr).alloc (Nat.le_refl _) (.cells #[.int .i64 x1, .int .i64 x2] 24)
      obtain ⟨gt, hgt⟩ : ∃ g, wr.heap.size = g := ⟨_, rfl⟩
      have hbg : b < gt := by rw [← hgt]; exact hbl
      have hwb : w.heap.size ≤ b := by rw [HBB.out]; exact Nat.le_refl _
      have CM := Lib.hid (CM.out.below b1)
      have BV := Lib.hid (below3 BW.out b1)
      obtain ⟨V, hV⟩ : ∃ V, wr.alloc (.cells #[.int .i64 x1, .int .i64 x2] 24) = V := ⟨_, rfl⟩
      rw [hV] at k1 CM BV
      rw [hgt] at k1
      have HV := Lib.hid hV
      have HG := Lib.hid hgt
      have KV := Lib.hid k1
      clear hV hgt k1 b1 hx1 hx2 fa fb hcx hbl BW
      go_upto_region 5 with fail
      rw [HV.out]
      try rw [HG.out]
      clear HV HG c0 c1 hbA
      obtain ⟨hc0, hc1⟩ := hc0
      refine wp_region_held (S := fun U => Bk U gt 24 #[.int .i64 x1, .int .i64 x2]) (by kernel_rfl) ?_
      change wpAnyH _ _ _ _ _ _ _ _ (World.drew V)
      have hS0 := KV.out.drew
      have CM0 := Lib.hid (CM.out.below (Below.refl V.heap.size V).drew)
      have B0 := Lib.hid (BV.out.drew)
      generalize V.drew = U0 at hS0 CM0 B0 ⊢
      clear KV CM BV
      refine take_at (i := 0) (d := 17) (v := .map (some b)) rfl rfl (by kernel_rfl) (by kernel_rfl) (by kernel_rfl) (fun _ _ _ h => h) (.inl ⟨by kernel_rfl, fun U hU => by go_simp⟩) hS0 ?_
      simp only [Act.put, List.setIfInBounds_toArray, List.set_cons_zero, List.set_cons_succ]
      refine take_at (i := 1) (d := 18) (v := .agg #[.int .i64 x1, .int .i64 x2]) rfl rfl (by kernel_rfl) (by kernel_rfl) (by kernel_rfl) (fun _ _ _ h => h) (.inl ⟨by kernel_rfl, fun U hU => by have q0 : _ = some (Value.int .i64 x1) := Bk.cell hU 0; have q1 : _ = some (Value.int .i64 x2) := Bk.cell hU 1; go_simp⟩) hS0 ?_
      simp only [Act.put, List.setIfInBounds_toArray, List.set_cons_zero, List.set_cons_succ]
      have hget := CM0.out.get FX.out
      rw [HCX.out] at hget
      obtain ⟨v0, st, U1, hme, cm1, g1, hst⟩ := CM0.out.bump FX.out (by omega)
      have hget1 := cm1.get FX.out
      rw [HCX.out] at hget1
      obtain ⟨U2, hes, cm2, g2⟩ := hst (cx + 1) ⟨by omega, by omega⟩
      have hS1 := hS0.grown g1 (by intro e; injection e with e; omega)
      have hS2 := Bk.grown hS1 g2 (by intro e; injection e with e; omega)
      have CM2 := Lib.hid cm2
      have B2 := Lib.hid (B0.out.grown (gb_trans g1 g2) B0.out.size (by intro k hk; injection hk with hk; omega))
      simp only [tv] at hget hget1 hme
      clear cm1 cm2 g1 g2 hst
      have hwr : IntKind.i64.wrap (cx + 1) = cx + 1 := by rw [IntKind.wrap_i64]; omega
      refine wpAnyH_all (rs := [2, 4]) (by kernel_rfl) (by simp) ?_
      intro i hi
      simp only [List.mem_cons, List.not_mem_nil, or_false] at hi
      rcases hi with rfl | rfl
      · unfold wpOp
        go_simp
        left
        refine take_at (i := 3) (d := 20) (v := .int .i64 (cx + 1)) rfl rfl (by kernel_rfl) (by kernel_rfl) (by kernel_rfl) (fun _ _ _ h => h) (.inl ⟨by kernel_rfl, fun U hU => by go_simp⟩) hS0 ?_
        simp only [Act.put, List.setIfInBounds_toArray, List.set_cons_zero, List.set_cons_succ]
        refine wpAnyH_all (rs := [4]) (by kernel_rfl) (by simp) ?_
        intro i hi
        simp only [List.mem_cons, List.not_mem_nil, or_false] at hi
        subst hi
        unfold wpOp
        go_simp
        left
        refine take_at (i := 5) (d := 22) (v := st) rfl rfl (by kernel_rfl) (by kernel_rfl) (by kernel_rfl) (fun _ _ _ h => h) (.inl ⟨by kernel_rfl, fun U hU => by go_simp⟩) hS1 ?_
        simp only [Act.put, List.setIfInBounds_toArray, List.set_cons_zero, List.set_cons_succ]
        refine wpAnyH_all (rs := [6]) (by kernel_rfl) (by simp) ?_
        intro i hi
        simp only [List.mem_cons, List.not_mem_nil, or_false] at hi
        subst hi
        unfold wpOp
        go_simp
        left
        refine wpAnyH_done (by kernel_rfl) ?_ _
        clear hwr hget hget1 hme hes hS0 hS1 hS2 hc0 hc1
        go_wp2_with fail
        go_roundw
        case rel => exact ⟨k + 1, by omega, by go_num, Lib.hid (CM2.out.same HN.out), B2⟩
        case measure => simp [intOf]; omega
      · unfold wpOp
        go_simp
        left
        refine take_at (i := 5) (d := 22) (v := st) rfl rfl (by kernel_rfl) (by kernel_rfl) (by kernel_rfl) (fun _ _ _ h => h) (.inl ⟨by kernel_rfl, fun U hU => by go_simp⟩) hS1 ?_
        simp only [Act.put, List.setIfInBounds_toArray, List.set_cons_zero, List.set_cons_succ]
        refine wpAnyH_all (rs := [2]) (by kernel_rfl) (by simp) ?_
        intro i hi
        simp only [List.mem_cons, List.not_mem_nil, or_false] at hi
        subst hi
        unfold wpOp
        go_simp
        left
        refine take_at (i := 3) (d := 20) (v := .int .i64 (cx + 1)) rfl rfl (by kernel_rfl) (by kernel_rfl) (by kernel_rfl) (fun _ _ _ h => h) (.inl ⟨by kernel_rfl, fun U hU => by go_simp⟩) hS1 ?_
        simp only [Act.put, List.setIfInBounds_toArray, List.set_cons_zero, List.set_cons_succ]
        refine wpAnyH_all (rs := [6]) (by kernel_rfl) (by simp) ?_
        intro i hi
        simp only [List.mem_cons, List.not_mem_nil, or_false] at hi
        subst hi
        unfold wpOp
        go_simp
        left
        refine wpAnyH_done (by kernel_rfl) ?_ _
        clear hwr hget hget1 hme hes hS0 hS1 hS2 hc0 hc1
        go_wp2_with fail
        go_roundw
        case rel => exact ⟨k + 1, by omega, by go_num, Lib.hid (CM2.out.same HN.out), B2⟩
        case measure => simp [intOf]; omega
    · obtain rfl : n = k := by omega
      have M2 := Lib.hid (CM.out.same (g := leftC xs (ys.take 0)) (fun y => by unfold leftC; rw [← LX.out, List.take_length]; simp))
      have HC0 := Lib.hid (show ∀ y, (ys.take 0).count y ≤ xs.count y from fun y => by simp)
      have BW2 := Lib.hid BW.out
      clear hk hkn CM BW
      go_wp2_with fail
      go_loopw [26] (fun t wr => ∃ k : Nat, k ≤ n' ∧ t = .int .i64 k ∧ Hid (CntM wr b (n + k) (leftC xs (ys.take k))) ∧ Hid (∀ y, (ys.take k).count y ≤ xs.count y) ∧ Hid (Below w.heap.size w wr)) (fun t _ => n' - (intOf t).toNat)
      case atStart => exact ⟨0, Nat.zero_le _, rfl, M2, HC0, BW2⟩
      case round =>
        clear M2 BW2 HC0
        rename World => wr
        obtain ⟨k, hk, rfl, CM, HCC, BW⟩ := hrel
        by_cases hkn : k < n'
        · obtain ⟨bA, oA, rfl, hbA, c0, c1⟩ := (HY.out.below BW.out).at_ hkn
          obtain ⟨fa, fb⟩ := HY.out.fit hkn
          have hkl : k < ys.length := by rw [LY.out]; exact hkn
          obtain ⟨x1, hx1⟩ : ∃ z, jO ys k = z := ⟨_, rfl⟩
          obtain ⟨x2, hx2⟩ : ∃ z, jA ys k = z := ⟨_, rfl⟩
          have HZ := Lib.hid (show ith ys k = (x1, x2) by rw [← hx1, ← hx2]; rfl)
          rw [hx1] at c0 fa
          rw [hx2] at c1 fb
          have FX : Hid (FitI (x1, x2)) := Lib.hid ⟨fa, fb⟩
          obtain ⟨cx, hcx⟩ : ∃ z, leftC xs (ys.take k) (x1, x2) = z := ⟨_, rfl⟩
          have hc0 : 0 ≤ cx ∧ cx ≤ 400 := by
            have h1 := HCC.out (x1, x2)
            have h2 : xs.count (x1, x2) ≤ n := by rw [← LX.out]; exact List.count_le_length
            rw [← hcx]; unfold leftC; omega
          have HCX := Lib.hid hcx
          have HN := Lib.hid (show ∀ y, updT (leftC xs (ys.take k)) (x1, x2) (cx - 1) y = leftC xs (ys.take (k + 1)) y from fun y => by
            unfold updT
            by_cases e : y = (x1, x2)
            · rw [if_pos e, ← hcx]
              unfold leftC
              rw [take_count hkl, HZ.out, if_pos e, e]
              first | (simp; done) | (simp; omega)
            · rw [if_neg e]
              unfold leftC
              rw [take_count hkl, HZ.out, if_neg e]
              simp)
          have hbl := CM.out.lt
          have k1 := Bk.new wr 24 #[.int .i64 x1, .int .i64 x2]
          have b1 := (Below.refl wr.heap.size wr).alloc (Nat.le_refl _) (.cells #[.int .i64 x1, .int .i64 x2] 24)
          obtain ⟨gt, hgt⟩ : ∃ g, wr.heap.size = g := ⟨_, rfl⟩
          have hbg : b < gt := by rw [← hgt]; exact hbl
          have hwb : w.heap.size ≤ b := by rw [HBB.out]; exact Nat.le_refl _
          have CM := Lib.hid (CM.out.below b1)
          have BV := Lib.hid (below3 BW.out b1)
          obtain ⟨V, hV⟩ : ∃ V, wr.alloc (.cells #[.int .i64 x1, .int .i64 x2] 24) = V := ⟨_, rfl⟩
          rw [hV] at k1 CM BV
          rw [hgt] at k1
          have HV := Lib.hid hV
          have HG := Lib.hid hgt
          have KV := Lib.hid k1
          have hgv := CM.out.get FX.out
          rw [HCX.out] at hgv
          simp only [tv] at hgv
          have HGV := Lib.hid hgv
          clear hV hgt k1 b1 hx1 hx2 fa fb hcx hbl BW hgv
          go_upto_region 10 with fail
          rw [HV.out]
          try rw [HG.out]
          clear HV HG c0 c1 hbA
          obtain ⟨hc0, hc1⟩ := hc0
          have hgv := HGV.out
          have q0 : _ = some (Value.int .i64 x1) := KV.out.cell 0
          have q1 : _ = some (Value.int .i64 x2) := KV.out.cell 1
          have lq := KV.out.lt
          by_cases hz : cx = 0
          · have HNO := Lib.hid (show ¬ xs.Perm ys from fun hp => by
              have h1 := hp.count_eq (x1, x2)
              have h2 : (ys.take (k + 1)).count (x1, x2) ≤ ys.count (x1, x2) := (List.take_sublist (k + 1) ys).count_le _
              rw [take_count hkl, HZ.out, if_pos rfl] at h2
              have h3 := HCX.out
              unfold leftC at h3
              omega)
            have t0 : (cx == 0) = true := by simpa using hz
            clear hz
            go_wp2_with fail
            go_ret
            exact ⟨by rw [← HR.out, decide_eq_false HNO.out]; rfl, BV.out⟩
          · have t0 : (cx == 0) = false := by simpa using hz
            have HCN := Lib.hid (show ∀ y, (ys.take (k + 1)).count y ≤ xs.count y from fun y => by
              rw [take_count hkl, HZ.out]
              have h1 := HCC.out y
              split
              · rename_i e
                subst e
                have h3 := HCX.out
                unfold leftC at h3
                omega
              · omega)
            have hc2 : 1 ≤ cx := by omega
            clear hz hc0
            go_wp2_with fail
            clear hgv q0 q1 lq HGV
            refine wp_region_held (S := fun U => Bk U gt 24 #[.int .i64 x1, .int .i64 x2]) (by kernel_rfl) ?_
            change wpAnyH _ _ _ _ _ _ _ _ (World.drew V)
            have hS0 := KV.out.drew
            have CM0 := Lib.hid (CM.out.below (Below.refl V.heap.size V).drew)
            have B0 := Lib.hid (BV.out.drew)
            generalize V.drew = U0 at hS0 CM0 B0 ⊢
            clear KV CM BV
            refine take_at (i := 0) (d := 34) (v := .map (some b)) rfl rfl (by kernel_rfl) (by kernel_rfl) (by kernel_rfl) (fun _ _ _ h => h) (.inl ⟨by kernel_rfl, fun U hU => by go_simp⟩) hS0 ?_
            simp only [Act.put, List.setIfInBounds_toArray, List.set_cons_zero, List.set_cons_succ]
            refine take_at (i := 1) (d := 35) (v := .agg #[.int .i64 x1, .int .i64 x2]) rfl rfl (by kernel_rfl) (by kernel_rfl) (by kernel_rfl) (fun _ _ _ h => h) (.inl ⟨by kernel_rfl, fun U hU => by have q0 : _ = some (Value.int .i64 x1) := Bk.cell hU 0; have q1 : _ = some (Value.int .i64 x2) := Bk.cell hU 1; go_simp⟩) hS0 ?_
            simp only [Act.put, List.setIfInBounds_toArray, List.set_cons_zero, List.set_cons_succ]
            have hget := CM0.out.get FX.out
            rw [HCX.out] at hget
            obtain ⟨v0, st, U1, hme, cm1, g1, hst⟩ := CM0.out.bump FX.out (by omega)
            have hget1 := cm1.get FX.out
            rw [HCX.out] at hget1
            obtain ⟨U2, hes, cm2, g2⟩ := hst (cx - 1) ⟨by omega, by omega⟩
            have hS1 := hS0.grown g1 (by intro e; injection e with e; omega)
            have hS2 := Bk.grown hS1 g2 (by intro e; injection e with e; omega)
            have CM2 := Lib.hid cm2
            have B2 := Lib.hid (B0.out.grown (gb_trans g1 g2) B0.out.size (by intro k hk; injection hk with hk; omega))
            simp only [tv] at hget hget1 hme
            clear cm1 cm2 g1 g2 hst
            have hwr : IntKind.i64.wrap (cx - 1) = cx - 1 := by rw [IntKind.wrap_i64]; omega
            refine wpAnyH_all (rs := [2, 4]) (by kernel_rfl) (by simp) ?_
            intro i hi
            simp only [List.mem_cons, List.not_mem_nil, or_false] at hi
            rcases hi with rfl | rfl
            · unfold wpOp
              go_simp
              left
              refine take_at (i := 3) (d := 37) (v := .int .i64 (cx - 1)) rfl rfl (by kernel_rfl) (by kernel_rfl) (by kernel_rfl) (fun _ _ _ h => h) (.inl ⟨by kernel_rfl, fun U hU => by go_simp⟩) hS0 ?_
              simp only [Act.put, List.setIfInBounds_toArray, List.set_cons_zero, List.set_cons_succ]
              refine wpAnyH_all (rs := [4]) (by kernel_rfl) (by simp) ?_
              intro i hi
              simp only [List.mem_cons, List.not_mem_nil, or_false] at hi
              subst hi
              unfold wpOp
              go_simp
              left
              refine take_at (i := 5) (d := 39) (v := st) rfl rfl (by kernel_rfl) (by kernel_rfl) (by kernel_rfl) (fun _ _ _ h => h) (.inl ⟨by kernel_rfl, fun U hU => by go_simp⟩) hS1 ?_
              simp only [Act.put, List.setIfInBounds_toArray, List.set_cons_zero, List.set_cons_succ]
              refine wpAnyH_all (rs := [6]) (by kernel_rfl) (by simp) ?_
              intro i hi
              simp only [List.mem_cons, List.not_mem_nil, or_false] at hi
              subst hi
              unfold wpOp
              go_simp
              left
              refine wpAnyH_done (by kernel_rfl) ?_ _
              clear hwr hget hget1 hme hes hS0 hS1 hS2 hc1 hc2
              go_wp2_with fail
              go_roundw
              case rel => exact ⟨k + 1, by omega, by go_num, Lib.hid (CM2.out.same HN.out), HCN, B2⟩
              case measure => simp [intOf]; omega
            · unfold wpOp
              go_simp
              left
              refine take_at (i := 5) (d := 39) (v := st) rfl rfl (by kernel_rfl) (by kernel_rfl) (by kernel_rfl) (fun _ _ _ h => h) (.inl ⟨by kernel_rfl, fun U hU => by go_simp⟩) hS1 ?_
              simp only [Act.put, List.setIfInBounds_toArray, List.set_cons_zero, List.set_cons_succ]
              refine wpAnyH_all (rs := [2]) (by kernel_rfl) (by simp) ?_
              intro i hi
              simp only [List.mem_cons, List.not_mem_nil, or_false] at hi
              subst hi
              unfold wpOp
              go_simp
              left
              refine take_at (i := 3) (d := 37) (v := .int .i64 (cx - 1)) rfl rfl (by kernel_rfl) (by kernel_rfl) (by kernel_rfl) (fun _ _ _ h => h) (.inl ⟨by kernel_rfl, fun U hU => by go_simp⟩) hS1 ?_
              simp only [Act.put, List.setIfInBounds_toArray, List.set_cons_zero, List.set_cons_succ]
              refine wpAnyH_all (rs := [6]) (by kernel_rfl) (by simp) ?_
              intro i hi
              simp only [List.mem_cons, List.not_mem_nil, or_false] at hi
              subst hi
              unfold wpOp
              go_simp
              left
              refine wpAnyH_done (by kernel_rfl) ?_ _
              clear hwr hget hget1 hme hes hS0 hS1 hS2 hc1 hc2
              go_wp2_with fail
              go_roundw
              case rel => exact ⟨k + 1, by omega, by go_num, Lib.hid (CM2.out.same HN.out), HCN, B2⟩
              case measure => simp [intOf]; omega
        · obtain rfl : n' = k := by omega
          have HE := Lib.hid (show decide (xs.Perm ys) = ((n : Int) == (n' : Int)) by
            by_cases e : n = n'
            · have : xs.Perm ys := perm_of_counts ys xs (by rw [LX.out, LY.out, e]) (fun y => by have := HCC.out y; rwa [← LY.out, List.take_length] at this)
              rw [decide_eq_true this, e]; simp
            · have : ¬ xs.Perm ys := fun q => e (by rw [← LX.out, ← LY.out]; exact q.length_eq)
              rw [decide_eq_false this]
              symm
              simp; omega)
          clear hk hkn
          go_wp2_with fail
          go_ret
          exact ⟨by rw [← HR.out, HE.out]; rfl, BW.out⟩

end Go.Proofs.Ytjamoafihmcmeaa

/-
  The document's layer 11: on, Way, Check.
-/
import Derived.Test.YtkffmohgnbnhkaaJa
import Derived.Test.YtkffmohgnbnhkaaJn
import Derived.Test.YtkffmohgnbnhkaaHr
namespace Go.Proofs.Ytkffmohgnbnhkaa
open Go.RowKit

set_option maxHeartbeats 1000000 in
theorem ron_any (A : Option Addr) (n c : Nat) (l : List Tm) (x : Int) (w : World) (hx : Tms w A n c l) :
    Calls Try.prog 32 #[.slice A n c, .int .i64 x] w (RetB (.int .i64 (onL l x)) w) := by
  have HX := Lib.hid hx
  have LX := Lib.hid hx.1
  have hnc := hx.2.1
  clear hx
  go_enter Try.func32, Try.ntmps32
  go_wp2_with fail
  go_loopw [9] (fun t wr => ∃ k : Nat, k ≤ n ∧ t = .int .i64 k ∧ Hid (Below w.heap.size w wr ∧ ∀ j, j < k → jA l j ≠ x)) (fun t _ => n - (intOf t).toNat)
  case atStart => exact ⟨0, Nat.zero_le _, rfl, Lib.hid ⟨Below.refl _ _, fun i hi => by omega⟩⟩
  case round =>
    rename World => wr
    obtain ⟨k, hk, rfl, OK⟩ := hrel
    by_cases hkn : k < n
    · obtain ⟨bL, oL, rfl, hbL, c0, c1⟩ := (HX.out.below OK.out.1).at_ hkn
      have hkl : k < l.length := by rw [LX.out]; exact hkn
      have HON := Lib.hid (fun e : jA l k = x => onL_at hkl e OK.out.2)
      obtain ⟨z1, hz1⟩ : ∃ z, jO l k = z := ⟨_, rfl⟩
      obtain ⟨z2, hz2⟩ : ∃ z, jA l k = z := ⟨_, rfl⟩
      rw [hz1] at c0
      rw [hz2] at c1
      have HZ1 := Lib.hid hz1
      have HZ2 := Lib.hid hz2
      have k1 := Bk.new wr 37 #[.int .i64 z1, .int .i64 z2]
      have b1 := (Below.refl wr.heap.size wr).alloc (Nat.le_refl _) (.cells #[.int .i64 z1, .int .i64 z2] 37)
      have HB := Lib.hid (below3 OK.out.1 b1)
      have d0 := k1.c0
      have d1 := k1.c1
      clear hz1 hz2 k1
      by_cases he : z2 = x
      · have t0 : (z2 == x) = true := by simpa using he
        have HF := Lib.hid ((HON.out (by rw [HZ2.out]; exact he)).trans HZ1.out)
        clear he
        go_wp2_with fail
        go_ret
        exact RetB.of (ret_i64 HF.out.symm) HB.out
      · have t0 : (z2 == x) = false := by simpa using he
        have OK2 : Hid (Below w.heap.size w (wr.alloc (.cells #[.int .i64 z1, .int .i64 z2] 37)) ∧ ∀ j, j < k + 1 → jA l j ≠ x) := Lib.hid ⟨HB.out, fun i hi => by
          by_cases e : i = k
          · subst e; rw [HZ2.out]; exact he
          · exact OK.out.2 i (by omega)⟩
        clear he OK b1
        go_wp2_with fail
        go_roundw
        case rel => exact ⟨k + 1, by omega, by go_num, OK2⟩
        case measure => simp [intOf]; omega
    · obtain rfl : n = k := by omega
      have HF := Lib.hid (onL_none (l := l) (x := x) (fun j hj => OK.out.2 j (by have := LX.out; omega)))
      have HB := Lib.hid OK.out.1
      clear OK
      go_wp2_with fail
      go_ret
      exact RetB.of (ret_i64 HF.out.symm) HB.out

theorem fit_on {l : List Tm} (h : ∀ t ∈ l, FitI t) (x : Int) : Fit (onL l x) := by
  by_cases e : onL l x < 0
  · by_cases hm : x ∈ whos l
    · obtain ⟨t, ht, hte⟩ : ∃ t ∈ l, onL l x = t.1 := by
        clear e
        induction l with
        | nil => cases hm
        | cons u l ih =>
          by_cases e : u.2 = x
          · exact ⟨u, by simp, if_pos e⟩
          · have hm2 : x ∈ whos l := by
              rcases List.mem_cons.1 hm with h | h
              · exact absurd h.symm e
              · exact h
            obtain ⟨t, ht, h2⟩ := ih (fun t ht => h t (by simp [ht])) hm2
            exact ⟨t, by simp [ht], (if_neg e).trans h2⟩
      rw [hte]; exact (h t ht).1
    · rw [onL_not hm]; decide
  · exact (h _ (onL_pair (l := l) (x := x) (by omega))).1

set_option maxHeartbeats 2000000 in
theorem rway_any (A : Option Addr) (n c : Nat) (l : List Tm) (x : Int) (w : World) (hx : Tms w A n c l) (hn : n ≤ 1000) :
    Calls Try.prog 26 #[.slice A n c, .int .i64 x] w (NewI 2 (wayJ l x) w) := by
  have HX := Lib.hid hx
  have LX := Lib.hid hx.1
  have hnc := hx.2.1
  obtain ⟨zs, hzs⟩ : ∃ zs, wayJ l x = zs := ⟨_, rfl⟩
  rw [hzs]
  have HZS := Lib.hid hzs
  clear hx hzs
  go_enter Try.func26, Try.ntmps26
  go_wp2_with fail
  go_loopw [1, 5, 9] (fun t1 t5 t wr => ∃ (k : Nat) (z : Int) (Ao : Option Addr) (co : Nat) (ys : List Int), k ≤ n + 1 ∧ t = .int .i64 k ∧ t1 = .int .i64 z ∧ t5 = .slice Ao ys.length co ∧ ys.length ≤ k ∧ Hid (zs = ys ++ wayN l (n + 1 - k) z) ∧ Hid (OwnI 2 wr w.heap.size Ao co ys) ∧ Hid (Below w.heap.size w wr)) (fun _ _ t _ => n + 1 - (intOf t).toNat)
  case atStart => exact ⟨0, x, none, 0, [], by omega, rfl, rfl, rfl, Nat.le_refl _, Lib.hid (by rw [← HZS.out]; unfold wayJ; rw [LX.out]; rfl), Lib.hid (OwnI.nil_ _ _ _), Lib.hid (Below.refl _ _)⟩
  case round =>
    rename World => wr
    obtain ⟨k, z, Ao, co, ys, hk, rfl, rfl, rfl, hyl, YS, OY, BW⟩ := hrel
    by_cases hkn : k < n + 1
    · have HW : Hid (wayN l (n + 1 - k) z = if onL l z < 0 then [] else onL l z :: wayN l (n + 1 - (k + 1)) (onL l z)) := Lib.hid (by
        rw [show n + 1 - k = (n - k) + 1 by omega, show n + 1 - (k + 1) = n - k by omega]
        rfl)
      have HFT := Lib.hid (fit_on HX.out.2.2.1 z)
      obtain ⟨y, hy⟩ : ∃ y, onL l z = y := ⟨_, rfl⟩
      have HC := Lib.hid (ron_any A n c l z wr (HX.out.below BW.out))
      rw [hy] at HC HW HFT
      clear hy
      go_wp2_with fail
      refine HC.out.mono ?_
      rintro e w1 ⟨rfl, b1⟩
      have O1 := Lib.hid (OY.out.below b1)
      have B1 := Lib.hid (below3 BW.out b1)
      clear b1 OY BW HC
      by_cases hy0 : y < 0
      · have HF : Hid (zs = ys) := Lib.hid (by rw [YS.out, HW.out, if_pos hy0, List.append_nil])
        have t0 : decide (y < 0) = true := decide_eq_true hy0
        clear hy0 YS HW
        go_wp2_with fail
        go_ret
        have e := HF.out
        subst e
        exact ⟨Ao, co, rfl, O1.out, B1.out⟩
      · have YN : Hid (zs = (ys ++ [y]) ++ wayN l (n + 1 - (k + 1)) y) := Lib.hid (by rw [YS.out, HW.out, if_neg hy0, List.append_assoc]; rfl)
        have t0 : decide (y < 0) = false := decide_eq_false hy0
        have b2 := (Below.refl w1.heap.size w1).alloc (Nat.le_refl _) (.cells #[.int .i64 y] 2)
        have O4 := Lib.hid (O1.out.below b2)
        have B4 := Lib.hid (below3 B1.out b2)
        have T1 := Lib.hid (ints1 w1 2 HFT.out)
        have HS2 := Lib.hid (B4.out.size)
        have hsz := B4.out.size
        clear hy0 YS HW b2 O1 B1 hsz
        go_wp2_with (at_builtin; refine wpList_append_ints _ rfl _ _ 27 rfl 2 Try.underlying27 infoI8 w.heap.size Ao co ys _ rfl rfl O4.out (some ⟨w1.heap.size, 0, none⟩) 1 1 [y] rfl T1.out (by omega) HS2.out ?_; intro A2 c2 w4 ho hgr; have O5 := Lib.hid ho; have B5 := Lib.hid (below_app B4.out O4.out hgr HS2.out); clear ho hgr T1 O4 B4)
        go_roundw
        case rel => exact ⟨k + 1, y, A2, c2, ys ++ [y], by omega, by go_num, rfl, by simp, by simp; omega, YN, O5, B5⟩
        case measure => simp [intOf]; omega
    · have hke : k = n + 1 := by omega
      have e : zs = ys := by rw [YS.out, show n + 1 - k = 0 by omega]; exact List.append_nil _
      subst e
      clear YS hke
      go_wp2_with fail
      go_ret
      exact ⟨Ao, co, rfl, OY.out, BW.out⟩

set_option maxRecDepth 100000 in
set_option maxHeartbeats 8000000 in
theorem rcheck_any (A : Option Addr) (n c : Nat) (l : List Tm) (w : World) (hx : Tms w A n c l) :
    Calls Try.prog 20 #[.slice A n c] w (RetB (.int .i64 (checkR l)) w) := by
  have HX := Lib.hid hx
  have LX := Lib.hid hx.1
  have hnc := hx.2.1
  unfold checkR
  obtain ⟨r, hr⟩ : ∃ r : Int, (if okJ l then (0 : Int) else 1) = r := ⟨_, rfl⟩
  rw [hr]
  have HR := Lib.hid hr
  clear hx hr
  by_cases hn : 256 < n
  · have HNO : Hid (¬ okJ l) := Lib.hid (fun q => by have := q.1; have := LX.out; omega)
    go_enter Try.func20, Try.ntmps20
    go_wp2_with fail
    go_ret
    exact RetB.of (ret_i64 (by rw [← HR.out, if_neg HNO.out])) (Below.refl _ _)
  · go_enter Try.func20, Try.ntmps20
    go_wp2_with fail
    go_loopw [12] (fun t wr => ∃ k : Nat, k ≤ n ∧ t = .int .i64 k ∧ Hid (Below w.heap.size w wr ∧ OkA l k)) (fun t _ => n - (intOf t).toNat)
    case atStart => exact ⟨0, Nat.zero_le _, rfl, Lib.hid ⟨Below.refl _ _, fun i hi => by omega⟩⟩
    case round =>
      rename World => wr
      obtain ⟨k, hk, rfl, OK⟩ := hrel
      by_cases hkn : k < n
      · obtain ⟨bL, oL, rfl, hbL, c0, c1⟩ := (HX.out.below OK.out.1).at_ hkn
        have hkl : k < l.length := by rw [LX.out]; exact hkn
        obtain ⟨z1, hz1⟩ : ∃ z, jO l k = z := ⟨_, rfl⟩
        obtain ⟨z2, hz2⟩ : ∃ z, jA l k = z := ⟨_, rfl⟩
        rw [hz1] at c0
        rw [hz2] at c1
        have HO : Hid (okA l k ↔ 0 ≤ z1 ∧ 0 ≤ z2 ∧ onL (l.take k) z2 < 0) := Lib.hid (by unfold okA; rw [hz1, hz2])
        obtain ⟨y, hy⟩ : ∃ y, onL (l.take k) z2 = y := ⟨_, rfl⟩
        rw [hy] at HO
        have HY := Lib.hid hy
        have k1 := Bk.new wr 37 #[.int .i64 z1, .int .i64 z2]
        have b1 := (Below.refl wr.heap.size wr).alloc (Nat.le_refl _) (.cells #[.int .i64 z1, .int .i64 z2] 37)
        have bv := below3 OK.out.1 b1
        obtain ⟨g, hg⟩ : ∃ g, wr.heap.size = g := ⟨_, rfl⟩
        obtain ⟨V, hV⟩ : ∃ V, wr.alloc (.cells #[.int .i64 z1, .int .i64 z2] 37) = V := ⟨_, rfl⟩
        rw [hV] at k1 bv
        rw [hg] at k1
        have HV := Lib.hid hV
        have HG := Lib.hid hg
        have BV := Lib.hid bv
        have K1 := Lib.hid k1
        have HXV := Lib.hid (HX.out.below bv)
        clear hV hg k1 bv b1 hz1 hz2 hy
        go_upto_region 6 with fail
        rw [HV.out]
        try rw [HG.out]
        clear HV HG c0 c1 hbL
        have d0 := K1.out.c0
        have d1 := K1.out.c1
        have lg := K1.out.lt
        by_cases h1 : z1 < 0
        · have T0 := Lib.hid (decide_eq_true h1)
          have HNO : Hid (¬ okJ l) := Lib.hid (fun q => by have := HO.out.1 (q.at_ hkl).1; omega)
          clear h1
          refine calm_region (S := fun U => Below V.heap.size V U) (by kernel_rfl) (Below.refl _ _).drew ?_
          refine calm_to (i := 0) (t := 17) (v := .pointer (some ⟨g, 0, none⟩)) rfl rfl (by kernel_rfl) (by kernel_rfl) (by kernel_rfl) (fun _ _ _ h => h) (calm_of (by kernel_rfl) (fun U hU => by go_simp)) ?_
          simp only [List.setIfInBounds_toArray, List.set_cons_zero, List.set_cons_succ]
          refine calm_to (i := 1) (t := 18) (v := .int .i64 z1) rfl rfl (by kernel_rfl) (by kernel_rfl) (by kernel_rfl) (fun _ _ _ h => h) (calm_of (by kernel_rfl) (fun U hU => by have q0 := (hU.cell (p := ⟨g, 0, none⟩) lg).trans d0; have ql := Nat.lt_of_lt_of_le lg hU.size; go_simp)) ?_
          simp only [List.setIfInBounds_toArray, List.set_cons_zero, List.set_cons_succ]
          refine calm_to (i := 2) (t := 19) (v := .bool true) rfl rfl (by kernel_rfl) (by kernel_rfl) (by kernel_rfl) (fun _ _ _ h => h) (calm_of (by kernel_rfl) (fun U hU => by have t := T0.out; go_simp)) ?_
          simp only [List.setIfInBounds_toArray, List.set_cons_zero, List.set_cons_succ]
          refine calm_to (i := 3) (t := 20) (v := .bool true) rfl rfl (by kernel_rfl) (by kernel_rfl) (by kernel_rfl) (fun _ _ _ h => h) (calm_move (by kernel_rfl) (.tmp 19) (.inl rfl) rfl) ?_
          simp only [List.setIfInBounds_toArray, List.set_cons_zero, List.set_cons_succ]
          refine calm_to (i := 4) (t := 21) (v := undef) rfl rfl (by kernel_rfl) (by kernel_rfl) (by kernel_rfl) (fun _ _ _ h => h) (calm_skip (by kernel_rfl)) ?_
          simp only [List.setIfInBounds_toArray, List.set_cons_zero, List.set_cons_succ]
          refine calm_to (i := 5) (t := 22) (v := undef) rfl rfl (by kernel_rfl) (by kernel_rfl) (by kernel_rfl) (fun _ _ _ h => h) (calm_skip (by kernel_rfl)) ?_
          simp only [List.setIfInBounds_toArray, List.set_cons_zero, List.set_cons_succ]
          refine calm_to (i := 6) (t := 23) (v := undef) rfl rfl (by kernel_rfl) (by kernel_rfl) (by kernel_rfl) (fun _ _ _ h => h) (calm_skip (by kernel_rfl)) ?_
          simp only [List.setIfInBounds_toArray, List.set_cons_zero, List.set_cons_succ]
          refine calm_to (i := 7) (t := 24) (v := .bool true) rfl rfl (by kernel_rfl) (by kernel_rfl) (by kernel_rfl) (fun _ _ _ h => h) (calm_pick (by kernel_rfl) (.tmp 20) (.const (.bool true)) (.tmp 23) rfl true rfl rfl) ?_
          simp only [List.setIfInBounds_toArray, List.set_cons_zero, List.set_cons_succ]
          refine calm_to (i := 8) (t := 25) (v := .bool true) rfl rfl (by kernel_rfl) (by kernel_rfl) (by kernel_rfl) (fun _ _ _ h => h) (calm_move (by kernel_rfl) (.tmp 24) (.inl rfl) rfl) ?_
          simp only [List.setIfInBounds_toArray, List.set_cons_zero, List.set_cons_succ]
          refine calm_to (i := 9) (t := 26) (v := undef) rfl rfl (by kernel_rfl) (by kernel_rfl) (by kernel_rfl) (fun _ _ _ h => h) (calm_skip (by kernel_rfl)) ?_
          simp only [List.setIfInBounds_toArray, List.set_cons_zero, List.set_cons_succ]
          refine calm_to (i := 10) (t := 27) (v := undef) rfl rfl (by kernel_rfl) (by kernel_rfl) (by kernel_rfl) (fun _ _ _ h => h) (calm_skip (by kernel_rfl)) ?_
          simp only [List.setIfInBounds_toArray, List.set_cons_zero, List.set_cons_succ]
          refine calm_to (i := 11) (t := 28) (v := undef) rfl rfl (by kernel_rfl) (by kernel_rfl) (by kernel_rfl) (fun _ _ _ h => h) (calm_skip (by kernel_rfl)) ?_
          simp only [List.setIfInBounds_toArray, List.set_cons_zero, List.set_cons_succ]
          refine calm_to (i := 12) (t := 29) (v := undef) rfl rfl (by kernel_rfl) (by kernel_rfl) (by kernel_rfl) (fun _ _ _ h => h) (calm_skip (by kernel_rfl)) ?_
          simp only [List.setIfInBounds_toArray, List.set_cons_zero, List.set_cons_succ]
          refine calm_to (i := 13) (t := 30) (v := undef) rfl rfl (by kernel_rfl) (by kernel_rfl) (by kernel_rfl) (fun _ _ _ h => h) (calm_skip (by kernel_rfl)) ?_
          simp only [List.setIfInBounds_toArray, List.set_cons_zero, List.set_cons_succ]
          refine calm_to (i := 14) (t := 31) (v := undef) rfl rfl (by kernel_rfl) (by kernel_rfl) (by kernel_rfl) (fun _ _ _ h => h) (calm_skip (by kernel_rfl)) ?_
          simp only [List.setIfInBounds_toArray, List.set_cons_zero, List.set_cons_succ]
          refine calm_to (i := 15) (t := 32) (v := undef) rfl rfl (by kernel_rfl) (by kernel_rfl) (by kernel_rfl) (fun _ _ _ h => h) (calm_skip (by kernel_rfl)) ?_
          simp only [List.setIfInBounds_toArray, List.set_cons_zero, List.set_cons_succ]
          refine calm_to (i := 16) (t := 33) (v := .bool true) rfl rfl (by kernel_rfl) (by kernel_rfl) (by kernel_rfl) (fun _ _ _ h => h) (calm_pick (by kernel_rfl) (.tmp 25) (.const (.bool true)) (.tmp 32) rfl true rfl rfl) ?_
          simp only [List.setIfInBounds_toArray, List.set_cons_zero, List.set_cons_succ]
          refine calm_done (by kernel_rfl) (fun U hU => ?_) _
          have BF := Lib.hid (below3 BV.out hU)
          clear hU lg d0 d1
          go_wp2_with fail
          go_ret
          exact RetB.of (ret_i64 (by rw [← HR.out, if_neg HNO.out])) BF.out
        · have T0 := Lib.hid (decide_eq_false h1)
          by_cases h2 : z2 < 0
          · have T1 := Lib.hid (decide_eq_true h2)
            have HNO : Hid (¬ okJ l) := Lib.hid (fun q => by have := HO.out.1 (q.at_ hkl).1; omega)
            clear h1 h2
            refine calm_region (S := fun U => Below V.heap.size V U) (by kernel_rfl) (Below.refl _ _).drew ?_
            refine calm_to (i := 0) (t := 17) (v := .pointer (some ⟨g, 0, none⟩)) rfl rfl (by kernel_rfl) (by kernel_rfl) (by kernel_rfl) (fun _ _ _ h => h) (calm_of (by kernel_rfl) (fun U hU => by go_simp)) ?_
            simp only [List.setIfInBounds_toArray, List.set_cons_zero, List.set_cons_succ]
            refine calm_to (i := 1) (t := 18) (v := .int .i64 z1) rfl rfl (by kernel_rfl) (by kernel_rfl) (by kernel_rfl) (fun _ _ _ h => h) (calm_of (by kernel_rfl) (fun U hU => by have q0 := (hU.cell (p := ⟨g, 0, none⟩) lg).trans d0; have ql := Nat.lt_of_lt_of_le lg hU.size; go_simp)) ?_
            simp only [List.setIfInBounds_toArray, List.set_cons_zero, List.set_cons_succ]
            refine calm_to (i := 2) (t := 19) (v := .bool false) rfl rfl (by kernel_rfl) (by kernel_rfl) (by kernel_rfl) (fun _ _ _ h => h) (calm_of (by kernel_rfl) (fun U hU => by have t := T0.out; go_simp)) ?_
            simp only [List.setIfInBounds_toArray, List.set_cons_zero, List.set_cons_succ]
            refine calm_to (i := 3) (t := 20) (v := .bool false) rfl rfl (by kernel_rfl) (by kernel_rfl) (by kernel_rfl) (fun _ _ _ h => h) (calm_move (by kernel_rfl) (.tmp 19) (.inl rfl) rfl) ?_
            simp only [List.setIfInBounds_toArray, List.set_cons_zero, List.set_cons_succ]
            refine calm_to (i := 4) (t := 21) (v := .pointer (some ⟨g, 1, none⟩)) rfl rfl (by kernel_rfl) (by kernel_rfl) (by kernel_rfl) (fun _ _ _ h => h) (calm_of (by kernel_rfl) (fun U hU => by go_simp)) ?_
            simp only [List.setIfInBounds_toArray, List.set_cons_zero, List.set_cons_succ]
            refine calm_to (i := 5) (t := 22) (v := .int .i64 z2) rfl rfl (by kernel_rfl) (by kernel_rfl) (by kernel_rfl) (fun _ _ _ h => h) (calm_of (by kernel_rfl) (fun U hU => by have q0 := (hU.cell (p := ⟨g, 1, none⟩) lg).trans d1; have ql := Nat.lt_of_lt_of_le lg hU.size; go_simp)) ?_
            simp only [List.setIfInBounds_toArray, List.set_cons_zero, List.set_cons_succ]
            refine calm_to (i := 6) (t := 23) (v := .bool true) rfl rfl (by kernel_rfl) (by kernel_rfl) (by kernel_rfl) (fun _ _ _ h => h) (calm_of (by kernel_rfl) (fun U hU => by have t := T1.out; go_simp)) ?_
            simp only [List.setIfInBounds_toArray, List.set_cons_zero, List.set_cons_succ]
            refine calm_to (i := 7) (t := 24) (v := .bool true) rfl rfl (by kernel_rfl) (by kernel_rfl) (by kernel_rfl) (fun _ _ _ h => h) (calm_pick (by kernel_rfl) (.tmp 20) (.const (.bool true)) (.tmp 23) rfl false rfl rfl) ?_
            simp only [List.setIfInBounds_toArray, List.set_cons_zero, List.set_cons_succ]
            refine calm_to (i := 8) (t := 25) (v := .bool true) rfl rfl (by kernel_rfl) (by kernel_rfl) (by kernel_rfl) (fun _ _ _ h => h) (calm_move (by kernel_rfl) (.tmp 24) (.inl rfl) rfl) ?_
            simp only [List.setIfInBounds_toArray, List.set_cons_zero, List.set_cons_succ]
            refine calm_to (i := 9) (t := 26) (v := undef) rfl rfl (by kernel_rfl) (by kernel_rfl) (by kernel_rfl) (fun _ _ _ h => h) (calm_skip (by kernel_rfl)) ?_
            simp only [List.setIfInBounds_toArray, List.set_cons_zero, List.set_cons_succ]
            refine calm_to (i := 10) (t := 27) (v := undef) rfl rfl (by kernel_rfl) (by kernel_rfl) (by kernel_rfl) (fun _ _ _ h => h) (calm_skip (by kernel_rfl)) ?_
            simp only [List.setIfInBounds_toArray, List.set_cons_zero, List.set_cons_succ]
            refine calm_to (i := 11) (t := 28) (v := undef) rfl rfl (by kernel_rfl) (by kernel_rfl) (by kernel_rfl) (fun _ _ _ h => h) (calm_skip (by kernel_rfl)) ?_
            simp only [List.setIfInBounds_toArray, List.set_cons_zero, List.set_cons_succ]
            refine calm_to (i := 12) (t := 29) (v := undef) rfl rfl (by kernel_rfl) (by kernel_rfl) (by kernel_rfl) (fun _ _ _ h => h) (calm_skip (by kernel_rfl)) ?_
            simp only [List.setIfInBounds_toArray, List.set_cons_zero, List.set_cons_succ]
            refine calm_to (i := 13) (t := 30) (v := undef) rfl rfl (by kernel_rfl) (by kernel_rfl) (by kernel_rfl) (fun _ _ _ h => h) (calm_skip (by kernel_rfl)) ?_
            simp only [List.setIfInBounds_toArray, List.set_cons_zero, List.set_cons_succ]
            refine calm_to (i := 14) (t := 31) (v := undef) rfl rfl (by kernel_rfl) (by kernel_rfl) (by kernel_rfl) (fun _ _ _ h => h) (calm_skip (by kernel_rfl)) ?_
            simp only [List.setIfInBounds_toArray, List.set_cons_zero, List.set_cons_succ]
            refine calm_to (i := 15) (t := 32) (v := undef) rfl rfl (by kernel_rfl) (by kernel_rfl) (by kernel_rfl) (fun _ _ _ h => h) (calm_skip (by kernel_rfl)) ?_
            simp only [List.setIfInBounds_toArray, List.set_cons_zero, List.set_cons_succ]
            refine calm_to (i := 16) (t := 33) (v := .bool true) rfl rfl (by kernel_rfl) (by kernel_rfl) (by kernel_rfl) (fun _ _ _ h => h) (calm_pick (by kernel_rfl) (.tmp 25) (.const (.bool true)) (.tmp 32) rfl true rfl rfl) ?_
            simp only [List.setIfInBounds_toArray, List.set_cons_zero, List.set_cons_succ]
            refine calm_done (by kernel_rfl) (fun U hU => ?_) _
            have BF := Lib.hid (below3 BV.out hU)
            clear hU lg d0 d1
            go_wp2_with fail
            go_ret
            exact RetB.of (ret_i64 (by rw [← HR.out, if_neg HNO.out])) BF.out
          · have T1 := Lib.hid (decide_eq_false h2)
            by_cases h3 : 0 ≤ y
            · have T2 : Hid (decide (0 ≤ y) = true) := Lib.hid (decide_eq_true h3)
              have HNO : Hid (¬ okJ l) := Lib.hid (fun q => by have := HO.out.1 (q.at_ hkl).1; omega)
              clear h1 h2 h3
              refine calm_region (S := fun U => Below V.heap.size V U) (by kernel_rfl) (Below.refl _ _).drew ?_
              refine calm_to (i := 0) (t := 17) (v := .pointer (some ⟨g, 0, none⟩)) rfl rfl (by kernel_rfl) (by kernel_rfl) (by kernel_rfl) (fun _ _ _ h => h) (calm_of (by kernel_rfl) (fun U hU => by go_simp)) ?_
              simp only [List.setIfInBounds_toArray, List.set_cons_zero, List.set_cons_succ]
              refine calm_to (i := 1) (t := 18) (v := .int .i64 z1) rfl rfl (by kernel_rfl) (by kernel_rfl) (by kernel_rfl) (fun _ _ _ h => h) (calm_of (by kernel_rfl) (fun U hU => by have q0 := (hU.cell (p := ⟨g, 0, none⟩) lg).trans d0; have ql := Nat.lt_of_lt_of_le lg hU.size; go_simp)) ?_
              simp only [List.setIfInBounds_toArray, List.set_cons_zero, List.set_cons_succ]
              refine calm_to (i := 2) (t := 19) (v := .bool false) rfl rfl (by kernel_rfl) (by kernel_rfl) (by kernel_rfl) (fun _ _ _ h => h) (calm_of (by kernel_rfl) (fun U hU => by have t := T0.out; go_simp)) ?_
              simp only [List.setIfInBounds_toArray, List.set_cons_zero, List.set_cons_succ]
              refine calm_to (i := 3) (t := 20) (v := .bool false) rfl rfl (by kernel_rfl) (by kernel_rfl) (by kernel_rfl) (fun _ _ _ h => h) (calm_move (by kernel_rfl) (.tmp 19) (.inl rfl) rfl) ?_
              simp only [List.setIfInBounds_toArray, List.set_cons_zero, List.set_cons_succ]
              refine calm_to (i := 4) (t := 21) (v := .pointer (some ⟨g, 1, none⟩)) rfl rfl (by kernel_rfl) (by kernel_rfl) (by kernel_rfl) (fun _ _ _ h => h) (calm_of (by kernel_rfl) (fun U hU => by go_simp)) ?_
              simp only [List.setIfInBounds_toArray, List.set_cons_zero, List.set_cons_succ]
              refine calm_to (i := 5) (t := 22) (v := .int .i64 z2) rfl rfl (by kernel_rfl) (by kernel_rfl) (by kernel_rfl) (fun _ _ _ h => h) (calm_of (by kernel_rfl) (fun U hU => by have q0 := (hU.cell (p := ⟨g, 1, none⟩) lg).trans d1; have ql := Nat.lt_of_lt_of_le lg hU.size; go_simp)) ?_
              simp only [List.setIfInBounds_toArray, List.set_cons_zero, List.set_cons_succ]
              refine calm_to (i := 6) (t := 23) (v := .bool false) rfl rfl (by kernel_rfl) (by kernel_rfl) (by kernel_rfl) (fun _ _ _ h => h) (calm_of (by kernel_rfl) (fun U hU => by have t := T1.out; go_simp)) ?_
              simp only [List.setIfInBounds_toArray, List.set_cons_zero, List.set_cons_succ]
              refine calm_to (i := 7) (t := 24) (v := .bool false) rfl rfl (by kernel_rfl) (by kernel_rfl) (by kernel_rfl) (fun _ _ _ h => h) (calm_pick (by kernel_rfl) (.tmp 20) (.const (.bool true)) (.tmp 23) rfl false rfl rfl) ?_
              simp only [List.setIfInBounds_toArray, List.set_cons_zero, List.set_cons_succ]
              refine calm_to (i := 8) (t := 25) (v := .bool false) rfl rfl (by kernel_rfl) (by kernel_rfl) (by kernel_rfl) (fun _ _ _ h => h) (calm_move (by kernel_rfl) (.tmp 24) (.inl rfl) rfl) ?_
              simp only [List.setIfInBounds_toArray, List.set_cons_zero, List.set_cons_succ]
              refine calm_to (i := 9) (t := 26) (v := .slice (some ⟨bL, oL, none⟩) n c) rfl rfl (by kernel_rfl) (by kernel_rfl) (by kernel_rfl) (fun _ _ _ h => h) (calm_move (by kernel_rfl) (.tmp 0) (.inl rfl) rfl) ?_
              simp only [List.setIfInBounds_toArray, List.set_cons_zero, List.set_cons_succ]
              refine calm_to (i := 10) (t := 27) (v := .int .i64 k) rfl rfl (by kernel_rfl) (by kernel_rfl) (by kernel_rfl) (fun _ _ _ h => h) (calm_move (by kernel_rfl) (.tmp 3) (.inl rfl) rfl) ?_
              simp only [List.setIfInBounds_toArray, List.set_cons_zero, List.set_cons_succ]
              refine calm_to (i := 11) (t := 28) (v := .slice (some ⟨bL, oL, none⟩) k c) rfl rfl (by kernel_rfl) (by kernel_rfl) (by kernel_rfl) (fun _ _ _ h => h) (calm_of (by kernel_rfl) (fun U hU => by have hck : ¬ c < k := (by omega); go_simp)) ?_
              simp only [List.setIfInBounds_toArray, List.set_cons_zero, List.set_cons_succ]
              refine calm_to (i := 12) (t := 29) (v := .pointer (some ⟨g, 1, none⟩)) rfl rfl (by kernel_rfl) (by kernel_rfl) (by kernel_rfl) (fun _ _ _ h => h) (calm_of (by kernel_rfl) (fun U hU => by go_simp)) ?_
              simp only [List.setIfInBounds_toArray, List.set_cons_zero, List.set_cons_succ]
              refine calm_to (i := 13) (t := 30) (v := .int .i64 z2) rfl rfl (by kernel_rfl) (by kernel_rfl) (by kernel_rfl) (fun _ _ _ h => h) (calm_of (by kernel_rfl) (fun U hU => by have q0 := (hU.cell (p := ⟨g, 1, none⟩) lg).trans d1; have ql := Nat.lt_of_lt_of_le lg hU.size; go_simp)) ?_
              simp only [List.setIfInBounds_toArray, List.set_cons_zero, List.set_cons_succ]
              refine calm_to (i := 14) (t := 31) (v := .int .i64 y) rfl rfl (by kernel_rfl) (by kernel_rfl) (by kernel_rfl) (fun _ _ _ h => h) (calm_call2 (by kernel_rfl) 32 (.tmp 28) (.tmp 30) #[22, 2] rfl (enters_of Try.func32 (by kernel_rfl) rfl) (.slice (some ⟨bL, oL, none⟩) k c) (.int .i64 z2) rfl rfl (fun U hU => (ron_any _ k c (l.take k) z2 U ((HXV.out.below hU).take hk)).mono fun _ _ q => ⟨by rw [q.1, HY.out], below3 hU q.2⟩)) ?_
              simp only [List.setIfInBounds_toArray, List.set_cons_zero, List.set_cons_succ]
              refine calm_to (i := 15) (t := 32) (v := .bool true) rfl rfl (by kernel_rfl) (by kernel_rfl) (by kernel_rfl) (fun _ _ _ h => h) (calm_of (by kernel_rfl) (fun U hU => by have t := T2.out; go_simp)) ?_
              simp only [List.setIfInBounds_toArray, List.set_cons_zero, List.set_cons_succ]
              refine calm_to (i := 16) (t := 33) (v := .bool true) rfl rfl (by kernel_rfl) (by kernel_rfl) (by kernel_rfl) (fun _ _ _ h => h) (calm_pick (by kernel_rfl) (.tmp 25) (.const (.bool true)) (.tmp 32) rfl false rfl rfl) ?_
              simp only [List.setIfInBounds_toArray, List.set_cons_zero, List.set_cons_succ]
              refine calm_done (by kernel_rfl) (fun U hU => ?_) _
              have BF := Lib.hid (below3 BV.out hU)
              clear hU lg d0 d1
              go_wp2_with fail
              go_ret
              exact RetB.of (ret_i64 (by rw [← HR.out, if_neg HNO.out])) BF.out
            · have T2 : Hid (decide (0 ≤ y) = false) := Lib.hid (decide_eq_false h3)
              have OKN : Hid (OkA l (k + 1)) := Lib.hid (fun i hi => by
                by_cases e : i = k
                · subst e; exact HO.out.2 (by omega)
                · exact OK.out.2 i (by omega))
              clear h1 h2 h3 OK
              refine calm_region (S := fun U => Below V.heap.size V U) (by kernel_rfl) (Below.refl _ _).drew ?_
              refine calm_to (i := 0) (t := 17) (v := .pointer (some ⟨g, 0, none⟩)) rfl rfl (by kernel_rfl) (by kernel_rfl) (by kernel_rfl) (fun _ _ _ h => h) (calm_of (by kernel_rfl) (fun U hU => by go_simp)) ?_
              simp only [List.setIfInBounds_toArray, List.set_cons_zero, List.set_cons_succ]
              refine calm_to (i := 1) (t := 18) (v := .int .i64 z1) rfl rfl (by kernel_rfl) (by kernel_rfl) (by kernel_rfl) (fun _ _ _ h => h) (calm_of (by kernel_rfl) (fun U hU => by have q0 := (hU.cell (p := ⟨g, 0, none⟩) lg).trans d0; have ql := Nat.lt_of_lt_of_le lg hU.size; go_simp)) ?_
              simp only [List.setIfInBounds_toArray, List.set_cons_zero, List.set_cons_succ]
              refine calm_to (i := 2) (t := 19) (v := .bool false) rfl rfl (by kernel_rfl) (by kernel_rfl) (by kernel_rfl) (fun _ _ _ h => h) (calm_of (by kernel_rfl) (fun U hU => by have t := T0.out; go_simp)) ?_
              simp only [List.setIfInBounds_toArray, List.set_cons_zero, List.set_cons_succ]
              refine calm_to (i := 3) (t := 20) (v := .bool false) rfl rfl (by kernel_rfl) (by kernel_rfl) (by kernel_rfl) (fun _ _ _ h => h) (calm_move (by kernel_rfl) (.tmp 19) (.inl rfl) rfl) ?_
              simp only [List.setIfInBounds_toArray, List.set_cons_zero, List.set_cons_succ]
              refine calm_to (i := 4) (t := 21) (v := .pointer (some ⟨g, 1, none⟩)) rfl rfl (by kernel_rfl) (by kernel_rfl) (by kernel_rfl) (fun _ _ _ h => h) (calm_of (by kernel_rfl) (fun U hU => by go_simp)) ?_
              simp only [List.setIfInBounds_toArray, List.set_cons_zero, List.set_cons_succ]
              refine calm_to (i := 5) (t := 22) (v := .int .i64 z2) rfl rfl (by kernel_rfl) (by kernel_rfl) (by kernel_rfl) (fun _ _ _ h => h) (calm_of (by kernel_rfl) (fun U hU => by have q0 := (hU.cell (p := ⟨g, 1, none⟩) lg).trans d1; have ql := Nat.lt_of_lt_of_le lg hU.size; go_simp)) ?_
              simp only [List.setIfInBounds_toArray, List.set_cons_zero, List.set_cons_succ]
              refine calm_to (i := 6) (t := 23) (v := .bool false) rfl rfl (by kernel_rfl) (by kernel_rfl) (by kernel_rfl) (fun _ _ _ h => h) (calm_of (by kernel_rfl) (fun U hU => by have t := T1.out; go_simp)) ?_
              simp only [List.setIfInBounds_toArray, List.set_cons_zero, List.set_cons_succ]
              refine calm_to (i := 7) (t := 24) (v := .bool false) rfl rfl (by kernel_rfl) (by kernel_rfl) (by kernel_rfl) (fun _ _ _ h => h) (calm_pick (by kernel_rfl) (.tmp 20) (.const (.bool true)) (.tmp 23) rfl false rfl rfl) ?_
              simp only [List.setIfInBounds_toArray, List.set_cons_zero, List.set_cons_succ]
              refine calm_to (i := 8) (t := 25) (v := .bool false) rfl rfl (by kernel_rfl) (by kernel_rfl) (by kernel_rfl) (fun _ _ _ h => h) (calm_move (by kernel_rfl) (.tmp 24) (.inl rfl) rfl) ?_
              simp only [List.setIfInBounds_toArray, List.set_cons_zero, List.set_cons_succ]
              refine calm_to (i := 9) (t := 26) (v := .slice (some ⟨bL, oL, none⟩) n c) rfl rfl (by kernel_rfl) (by kernel_rfl) (by kernel_rfl) (fun _ _ _ h => h) (calm_move (by kernel_rfl) (.tmp 0) (.inl rfl) rfl) ?_
              simp only [List.setIfInBounds_toArray, List.set_cons_zero, List.set_cons_succ]
              refine calm_to (i := 10) (t := 27) (v := .int .i64 k) rfl rfl (by kernel_rfl) (by kernel_rfl) (by kernel_rfl) (fun _ _ _ h => h) (calm_move (by kernel_rfl) (.tmp 3) (.inl rfl) rfl) ?_
              simp only [List.setIfInBounds_toArray, List.set_cons_zero, List.set_cons_succ]
              refine calm_to (i := 11) (t := 28) (v := .slice (some ⟨bL, oL, none⟩) k c) rfl rfl (by kernel_rfl) (by kernel_rfl) (by kernel_rfl) (fun _ _ _ h => h) (calm_of (by kernel_rfl) (fun U hU => by have hck : ¬ c < k := (by omega); go_simp)) ?_
              simp only [List.setIfInBounds_toArray, List.set_cons_zero, List.set_cons_succ]
              refine calm_to (i := 12) (t := 29) (v := .pointer (some ⟨g, 1, none⟩)) rfl rfl (by kernel_rfl) (by kernel_rfl) (by kernel_rfl) (fun _ _ _ h => h) (calm_of (by kernel_rfl) (fun U hU => by go_simp)) ?_
              simp only [List.setIfInBounds_toArray, List.set_cons_zero, List.set_cons_succ]
              refine calm_to (i := 13) (t := 30) (v := .int .i64 z2) rfl rfl (by kernel_rfl) (by kernel_rfl) (by kernel_rfl) (fun _ _ _ h => h) (calm_of (by kernel_rfl) (fun U hU => by have q0 := (hU.cell (p := ⟨g, 1, none⟩) lg).trans d1; have ql := Nat.lt_of_lt_of_le lg hU.size; go_simp)) ?_
              simp only [List.setIfInBounds_toArray, List.set_cons_zero, List.set_cons_succ]
              refine calm_to (i := 14) (t := 31) (v := .int .i64 y) rfl rfl (by kernel_rfl) (by kernel_rfl) (by kernel_rfl) (fun _ _ _ h => h) (calm_call2 (by kernel_rfl) 32 (.tmp 28) (.tmp 30) #[22, 2] rfl (enters_of Try.func32 (by kernel_rfl) rfl) (.slice (some ⟨bL, oL, none⟩) k c) (.int .i64 z2) rfl rfl (fun U hU => (ron_any _ k c (l.take k) z2 U ((HXV.out.below hU).take hk)).mono fun _ _ q => ⟨by rw [q.1, HY.out], below3 hU q.2⟩)) ?_
              simp only [List.setIfInBounds_toArray, List.set_cons_zero, List.set_cons_succ]
              refine calm_to (i := 15) (t := 32) (v := .bool false) rfl rfl (by kernel_rfl) (by kernel_rfl) (by kernel_rfl) (fun _ _ _ h => h) (calm_of (by kernel_rfl) (fun U hU => by have t := T2.out; go_simp)) ?_
              simp only [List.setIfInBounds_toArray, List.set_cons_zero, List.set_cons_succ]
              refine calm_to (i := 16) (t := 33) (v := .bool false) rfl rfl (by kernel_rfl) (by kernel_rfl) (by kernel_rfl) (fun _ _ _ h => h) (calm_pick (by kernel_rfl) (.tmp 25) (.const (.bool true)) (.tmp 32) rfl false rfl rfl) ?_
              simp only [List.setIfInBounds_toArray, List.set_cons_zero, List.set_cons_succ]
              refine calm_done (by kernel_rfl) (fun U hU => ?_) _
              have BF := Lib.hid (below3 BV.out hU)
              clear hU lg d0 d1 BV
              go_wp2_with fail
              go_roundw
              case rel => exact ⟨k + 1, by omega, by go_num, Lib.hid ⟨BF.out, OKN.out⟩⟩
              case measure => simp [intOf]; omega
      · obtain rfl : n = k := by omega
        have OKF : Hid (OkA l l.length) := Lib.hid (by rw [LX.out]; exact OK.out.2)
        have B0 := Lib.hid OK.out.1
        clear OK hk hkn
        go_wp2_with fail
        go_loopw [37] (fun t wr => ∃ k : Nat, k ≤ n ∧ t = .int .i64 k ∧ Hid (Below w.heap.size w wr ∧ ∀ i, i < k → jA l i ∉ wayJ l (jA l i))) (fun t _ => n - (intOf t).toNat)
        case atStart => exact ⟨0, Nat.zero_le _, rfl, Lib.hid ⟨B0.out, fun i hi => by omega⟩⟩
        case round =>
          clear B0
          rename World => ws
          obtain ⟨k, hk, rfl, OK⟩ := hrel
          by_cases hkn : k < n
          · obtain ⟨bL, oL, rfl, hbL, c0, c1⟩ := (HX.out.below OK.out.1).at_ hkn
            have hkl : k < l.length := by rw [LX.out]; exact hkn
            obtain ⟨z1, hz1⟩ : ∃ z, jO l k = z := ⟨_, rfl⟩
            obtain ⟨z2, hz2⟩ : ∃ z, jA l k = z := ⟨_, rfl⟩
            rw [hz1] at c0
            rw [hz2] at c1
            have HZ2 := Lib.hid hz2
            have k1 := Bk.new ws 37 #[.int .i64 z1, .int .i64 z2]
            have b1 := (Below.refl ws.heap.size ws).alloc (Nat.le_refl _) (.cells #[.int .i64 z1, .int .i64 z2] 37)
            have bv := below3 OK.out.1 b1
            obtain ⟨g, hg⟩ : ∃ g, ws.heap.size = g := ⟨_, rfl⟩
            obtain ⟨V, hV⟩ : ∃ V, ws.alloc (.cells #[.int .i64 z1, .int .i64 z2] 37) = V := ⟨_, rfl⟩
            rw [hV] at k1 bv
            rw [hg] at k1
            have HV := Lib.hid hV
            have HG := Lib.hid hg
            have BV := Lib.hid bv
            have K1 := Lib.hid k1
            clear hV hg k1 bv b1 hz1 hz2
            go_upto_region 12 with fail
            rw [HV.out]
            try rw [HG.out]
            clear HV HG c0 c1 hbL
            refine wp_region_held (S := fun U => Bk U g 37 #[.int .i64 z1, .int .i64 z2]) (by kernel_rfl) ?_
            change wpAnyH _ _ _ _ _ _ _ _ (World.drew V)
            have hS0 := K1.out.drew
            have B1 := Lib.hid (BV.out.drew)
            have HX1 := Lib.hid (HX.out.below BV.out.drew)
            generalize V.drew = U0 at hS0 B1 HX1 ⊢
            clear K1 BV
            refine take_at (i := 0) (d := 41) (v := .slice (some ⟨bL, oL, none⟩) n c) rfl rfl (by kernel_rfl) (by kernel_rfl) (by kernel_rfl) (fun _ _ _ h => h) (.inl ⟨by kernel_rfl, fun U hU => by go_simp⟩) hS0 ?_
            simp only [Act.put, List.setIfInBounds_toArray, List.set_cons_zero, List.set_cons_succ]
            refine take_at (i := 1) (d := 42) (v := .pointer (some ⟨g, 1, none⟩)) rfl rfl (by kernel_rfl) (by kernel_rfl) (by kernel_rfl) (fun _ _ _ h => h) (.inl ⟨by kernel_rfl, fun U hU => by go_simp⟩) hS0 ?_
            simp only [Act.put, List.setIfInBounds_toArray, List.set_cons_zero, List.set_cons_succ]
            refine take_at (i := 2) (d := 43) (v := .int .i64 z2) rfl rfl (by kernel_rfl) (by kernel_rfl) (by kernel_rfl) (fun _ _ _ h => h) (.inl ⟨by kernel_rfl, fun U hU => by have q1 := Bk.c1 hU; have ql := Bk.lt hU; go_simp⟩) hS0 ?_
            simp only [Act.put, List.setIfInBounds_toArray, List.set_cons_zero, List.set_cons_succ]
            refine take_at (i := 4) (d := 45) (v := .pointer (some ⟨g, 1, none⟩)) rfl rfl (by kernel_rfl) (by kernel_rfl) (by kernel_rfl) (fun _ _ _ h => h) (.inl ⟨by kernel_rfl, fun U hU => by go_simp⟩) hS0 ?_
            simp only [Act.put, List.setIfInBounds_toArray, List.set_cons_zero, List.set_cons_succ]
            refine take_at (i := 5) (d := 46) (v := .int .i64 z2) rfl rfl (by kernel_rfl) (by kernel_rfl) (by kernel_rfl) (fun _ _ _ h => h) (.inl ⟨by kernel_rfl, fun U hU => by have q1 := Bk.c1 hU; have ql := Bk.lt hU; go_simp⟩) hS0 ?_
            simp only [Act.put, List.setIfInBounds_toArray, List.set_cons_zero, List.set_cons_succ]
            refine wpAnyH_all (rs := [3]) (by kernel_rfl) (by simp) ?_
            intro i hi
            simp only [List.mem_cons, List.not_mem_nil, or_false] at hi
            subst hi
            unfold wpOp
            go_simp
            left
            refine (rway_any _ n c l z2 _ HX1.out (by omega)).mono ?_
            rintro e w1 ⟨A1, c1, rfl, o1, b1⟩
            have hS1 := hS0.below b1 hS0.lt
            have O1 := Lib.hid o1
            have B2 := Lib.hid (below3 B1.out b1)
            refine ⟨hS1, ?_⟩
            clear b1 o1 hS0 B1 HX1
            refine wpAnyH_all (rs := [6]) (by kernel_rfl) (by simp) ?_
            intro i hi
            simp only [List.mem_cons, List.not_mem_nil, or_false] at hi
            subst hi
            unfold wpOp
            go_simp
            left
            refine (rhas_any A1 _ c1 (wayJ l z2) z2 _ O1.out.ints).mono ?_
            by_cases hm : z2 ∈ wayJ l z2
            · rw [hasB_yes hm]
              have HNO : Hid (¬ okJ l) := Lib.hid (fun q => (q.at_ hkl).2 (by rw [HZ2.out]; exact hm))
              rintro e w2 ⟨rfl, b2⟩
              have B3 := Lib.hid (below3 B2.out b2)
              refine ⟨hS1.below b2 hS1.lt, ?_⟩
              clear b2 hS1 hm
              refine wpAnyH_done (by kernel_rfl) ?_ _
              go_wp2_with fail
              go_ret
              exact RetB.of (ret_i64 (by rw [← HR.out, if_neg HNO.out])) B3.out
            · rw [hasB_no hm]
              rintro e w2 ⟨rfl, b2⟩
              have OK2 : Hid (Below w.heap.size w w2 ∧ ∀ i, i < k + 1 → jA l i ∉ wayJ l (jA l i)) := Lib.hid ⟨below3 B2.out b2, fun i hi => by
                by_cases e : i = k
                · subst e; rw [HZ2.out]; exact hm
                · exact OK.out.2 i (by omega)⟩
              refine ⟨hS1.below b2 hS1.lt, ?_⟩
              clear b2 hS1 hm OK B2 O1
              refine wpAnyH_done (by kernel_rfl) ?_ _
              go_wp2_with fail
              go_roundw
              case rel => exact ⟨k + 1, by omega, by go_num, OK2⟩
              case measure => simp [intOf]; omega
          · obtain rfl : n = k := by omega
            have HYES : Hid (okJ l) := Lib.hid (okJ_of (by have := LX.out; omega) OKF.out (fun i hi => OK.out.2 i (by have := LX.out; omega)))
            have HB := Lib.hid OK.out.1
            clear OK
            go_wp2_with fail
            go_ret
            exact RetB.of (ret_i64 (by rw [← HR.out, if_pos HYES.out])) HB.out

end Go.Proofs.Ytkffmohgnbnhkaa

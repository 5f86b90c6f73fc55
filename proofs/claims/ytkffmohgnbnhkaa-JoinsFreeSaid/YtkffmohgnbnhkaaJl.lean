/-
  Layer 11, the program: waitsOf, Check, For, Wait, Done, Drop.
-/
import Derived.Test.YtkffmohgnbnhkaaJi
import Derived.Test.YtkffmohgnbnhkaaJk
namespace Go.Proofs.Ytkffmohgnbnhkaa
open Go.RowKit Go.Maps

theorem upd_onL {l : List Tm} {k : Nat} (hk : k < l.length) (h : OkA l k) {z1 z2 : Int} (e1 : jO l k = z1) (e2 : jA l k = z2) (hn : onL (l.take k) z2 < 0) (y : Int) : updZ (onL (l.take k)) z2 z1 y = onL (l.take (k + 1)) y := by
  obtain ⟨h1, h2⟩ := h.good (Nat.le_of_lt hk)
  have hnm : z2 ∉ whos (l.take k) := fun hm => by have := onL_of_mem h1 hm; omega
  have e : ith l k = (z1, z2) := by rw [← e1, ← e2]; rfl
  rw [take_ith hk, e]
  by_cases hy : y = z2
  · subst hy
    rw [updZ_same, onL_app_who hnm]
  · rw [updZ_ne _ _ hy, onL_app_ne hy]

/-- What waitsOf answers. -/
def WaA (l : List Tm) (w : World) (e : Ending) (w' : World) : Prop :=
  (okJ l ∧ ∃ b m, e = .returned (.tuple #[.map (some b), .int .i64 0]) ∧ ZMap w' b m (onL l) ∧ w.heap.size ≤ b ∧ Below w.heap.size w w') ∨ (¬ okJ l ∧ e = .returned (.tuple #[.map none, .int .i64 1]) ∧ Below w.heap.size w w')

set_option maxRecDepth 100000 in
set_option maxHeartbeats 4000000 in
theorem waits_any (A : Option Addr) (n c : Nat) (l : List Tm) (w : World) (hx : Tms w A n c l) :
    Calls Try.prog 22 #[.slice A n c] w (WaA l w) := by
  have HX := Lib.hid hx
  have LX := Lib.hid hx.1
  have hnc := hx.2.1
  clear hx
  by_cases hn : 256 < n
  · have HNO : Hid (¬ okJ l) := Lib.hid (fun q => by have := q.1; have := LX.out; omega)
    go_enter Try.func22, Try.ntmps22
    go_wp2_with fail
    exact bodyPost_ret (results_tmp2 rfl _ _ _) rfl (.inr ⟨HNO.out, rfl, Below.refl _ _⟩)
  · have hmk := run_makeMapW (n : Int) w
    have Z0 := Lib.hid (ZMap.made w)
    have B0 := Lib.hid ((Below.refl w.heap.size w).alloc (Nat.le_refl _) (.map #[] 0))
    obtain ⟨b, hb⟩ : ∃ b, w.heap.size = b := ⟨_, rfl⟩
    rw [hb] at hmk Z0
    have HB := Lib.hid hb
    clear hb
    go_enter Try.func22, Try.ntmps22
    go_wp2_with fail
    go_loopw [15] (fun t wr => ∃ k : Nat, k ≤ n ∧ t = .int .i64 k ∧ Hid (OkA l k) ∧ Hid (ZMap wr b k (onL (l.take k))) ∧ Hid (Below w.heap.size w wr)) (fun t _ => n - (intOf t).toNat)
    case atStart => exact ⟨0, Nat.zero_le _, rfl, Lib.hid (fun i hi => by omega), Lib.hid (Z0.out.same (fun y => rfl)), B0⟩
    case round =>
      clear Z0 B0 hmk
      rename World => wr
      obtain ⟨k, hk, rfl, OK, ZM, BW⟩ := hrel
      by_cases hkn : k < n
      · obtain ⟨bL, oL, rfl, hbL, c0, c1⟩ := (HX.out.below BW.out).at_ hkn
        have hkl : k < l.length := by rw [LX.out]; exact hkn
        have HFT := Lib.hid (HX.out.fit hkn)
        obtain ⟨z1, hz1⟩ : ∃ z, jO l k = z := ⟨_, rfl⟩
        obtain ⟨z2, hz2⟩ : ∃ z, jA l k = z := ⟨_, rfl⟩
        rw [hz1] at c0 HFT
        rw [hz2] at c1 HFT
        have HO : Hid (okA l k ↔ 0 ≤ z1 ∧ 0 ≤ z2 ∧ onL (l.take k) z2 < 0) := Lib.hid (by unfold okA; rw [hz1, hz2])
        have HUP := Lib.hid (fun h => upd_onL hkl OK.out hz1 hz2 h)
        have k1 := Bk.new wr 37 #[.int .i64 z1, .int .i64 z2]
        have b1 := (Below.refl wr.heap.size wr).alloc (Nat.le_refl _) (.cells #[.int .i64 z1, .int .i64 z2] 37)
        have d0 := k1.c0
        have d1 := k1.c1
        have Z1 := Lib.hid (ZM.out.below b1)
        have B1 := Lib.hid (below3 BW.out b1)
        clear hz1 hz2 k1 b1 BW ZM
        by_cases h1 : z1 < 0
        · have t0 : decide (z1 < 0) = true := decide_eq_true h1
          have HNO : Hid (¬ okJ l) := Lib.hid (fun q => by have := HO.out.1 (q.at_ hkl).1; omega)
          clear h1
          go_wp2_with fail
          exact bodyPost_ret (results_tmp2 rfl _ _ _) rfl (.inr ⟨HNO.out, rfl, B1.out⟩)
        · have t0 : decide (z1 < 0) = false := decide_eq_false h1
          by_cases h2 : z2 < 0
          · have t1 : decide (z2 < 0) = true := decide_eq_true h2
            have HNO : Hid (¬ okJ l) := Lib.hid (fun q => by have := HO.out.1 (q.at_ hkl).1; omega)
            clear h1 h2
            go_wp2_with fail
            exact bodyPost_ret (results_tmp2 rfl _ _ _) rfl (.inr ⟨HNO.out, rfl, B1.out⟩)
          · have t1 : decide (z2 < 0) = false := decide_eq_false h2
            have HC := Lib.hid (padd_any b k (onL (l.take k)) z1 z2 _ Z1.out HFT.out.1 HFT.out.2 (by omega) (by omega))
            have H12 : Hid (0 ≤ z1 ∧ 0 ≤ z2) := Lib.hid ⟨by omega, by omega⟩
            clear h1 h2
            go_wp2_with fail
            refine HC.out.mono ?_
            rintro e w2 (⟨hy, rfl, rfl⟩ | ⟨hy, rfl, hz, hg⟩)
            · have HNO : Hid (¬ okJ l) := Lib.hid (fun q => by have := HO.out.1 (q.at_ hkl).1; omega)
              clear hy HC
              go_wp2_with fail
              exact bodyPost_ret (results_tmp2 rfl _ _ _) rfl (.inr ⟨HNO.out, rfl, B1.out⟩)
            · have OKN : Hid (OkA l (k + 1)) := Lib.hid (fun i hi => by
                by_cases e : i = k
                · subst e; exact HO.out.2 ⟨H12.out.1, H12.out.2, hy⟩
                · exact OK.out i (by omega))
              have ZN := Lib.hid (hz.same (HUP.out hy))
              have BN := Lib.hid (B1.out.grown hg B1.out.size (fun j hj => by injection hj with hj; have := HB.out; omega))
              clear hy hz hg HC OK Z1 B1
              go_wp2_with fail
              go_roundw
              case rel => exact ⟨k + 1, by omega, by go_num, OKN, ZN, BN⟩
              case measure => simp [intOf]; omega
      · obtain rfl : n = k := by omega
        have OKF : Hid (OkA l l.length) := Lib.hid (by rw [LX.out]; exact OK.out)
        have ZF : Hid (ZMap wr b n (onL l)) := Lib.hid (by have := ZM.out; rwa [List.take_of_length_le (Nat.le_of_eq LX.out)] at this)
        have HGD : Hid (nonneg l ∧ (whos l).Nodup) := Lib.hid (by have := OKF.out.good (Nat.le_refl _); rwa [List.take_length] at this)
        have HC := Lib.hid (round_any b n l wr ZF.out (by have := LX.out; omega) HGD.out.1)
        clear OK ZM hk hkn
        go_wp2_with fail
        refine HC.out.mono ?_
        rintro e w2 ⟨r, rfl, b2, hr⟩
        have BF := Lib.hid (below3 BW.out b2)
        have Z2 := Lib.hid (ZF.out.below b2)
        rcases hr with ⟨rfl, y, hy⟩ | ⟨rfl, hy⟩
        · have HNO : Hid (¬ okJ l) := Lib.hid (fun q => hy ((okJ_ends.1 q).2.2.2 y))
          clear hy b2 HC
          go_wp2_with fail
          exact bodyPost_ret (results_tmp2 rfl _ _ _) rfl (.inr ⟨HNO.out, rfl, BF.out⟩)
        · have HYES : Hid (okJ l) := Lib.hid (okJ_ends.2 ⟨by have := LX.out; omega, HGD.out.1, HGD.out.2, hy⟩)
          clear hy b2 HC
          go_wp2_with fail
          exact bodyPost_ret (results_tmp2 rfl _ _ _) rfl (.inl ⟨HYES.out, b, n, rfl, Z2.out, by have := HB.out; omega, BF.out⟩)

theorem pcheck_any (A : Option Addr) (n c : Nat) (l : List Tm) (w : World) (hx : Tms w A n c l) :
    Calls Try.prog 19 #[.slice A n c] w (RetB (.int .i64 (checkR l)) w) := by
  have HC := Lib.hid (waits_any A n c l w hx)
  clear hx
  go_enter Try.func19, Try.ntmps19
  go_wp2_with fail
  refine HC.out.mono ?_
  rintro e w1 (⟨hok, b, m, rfl, hz, hb, b1⟩ | ⟨hok, rfl, b1⟩)
  · have HR := Lib.hid (checkR_yes hok)
    have B1 := Lib.hid b1
    clear hok hz hb b1
    go_wp2_with fail
    go_ret
    exact RetB.of (ret_i64 HR.out.symm) B1.out
  · have HR := Lib.hid (checkR_no hok)
    have B1 := Lib.hid b1
    clear hok b1
    go_wp2_with fail
    go_ret
    exact RetB.of (ret_i64 HR.out.symm) B1.out

set_option maxRecDepth 100000 in
set_option maxHeartbeats 4000000 in
theorem pfor_any (A : Option Addr) (n c : Nat) (l : List Tm) (x : Int) (w : World) (hx : Tms w A n c l) (fx : Fit x) :
    Calls Try.prog 15 #[.slice A n c, .int .i64 x] w (RetN (forR l x) w) := by
  have HX := Lib.hid hx
  have LX := Lib.hid hx.1
  have HC := Lib.hid (waits_any A n c l w hx)
  have HFX := Lib.hid fx
  have HWF := Lib.hid (wayJ_fit hx.2.2.1 x)
  obtain ⟨rr, hrr⟩ : ∃ rr, forR l x = rr := ⟨_, rfl⟩
  rw [hrr]
  have HRR := Lib.hid hrr
  clear hrr
  clear hx fx
  go_enter Try.func15, Try.ntmps15
  go_wp2_with fail
  refine HC.out.mono ?_
  clear HC
  rintro e w1 (⟨hok, b, m, rfl, hz, hb, b1⟩ | ⟨hok, rfl, b1⟩)
  · have HR : Hid (rr = (0, wayJ l x)) := Lib.hid (HRR.out.symm.trans (show forR l x = (0, wayJ l x) from if_pos hok))
    have HOK := Lib.hid hok
    have B1 := Lib.hid b1
    have HZ := Lib.hid hz
    have HSB := Lib.hid b1.size
    clear hok hz hb b1
    go_wp2_with fail
    refine (way_any b x w1).mono ?_
    rintro e w2 ⟨rfl, rfl⟩
    have bw := ((Below.refl w1.heap.size w1).alloc (Nat.le_refl _) (.cells #[.map (some b)] 46)).alloc (by simp) (.cells #[.int .i64 x] 2)
    have B2 := Lib.hid (below3 B1.out bw)
    have L2 := Lib.hid (lie_new (C := w1.heap.size) HZ.out HZ.out.lt x)
    have hs2 : ((w1.alloc (.cells #[.map (some b)] 46)).alloc (.cells #[.int .i64 x] 2)).heap.size = w1.heap.size + 2 := by simp
    have HCO := Lib.hid (collect_way w1.heap.size w1.heap.size 38 #[.pointer (some ⟨w1.heap.size, 0, none⟩), .pointer (some ⟨w1.heap.size + 1, 0, none⟩)] l x (wayJ l x) ((w1.alloc (.cells #[.map (some b)] 46)).alloc (.cells #[.int .i64 x] 2)) eg_way (HOK.out.path x) (Nat.le_trans (HOK.out.short x) (by omega)) HWF.out (by rw [hs2]; omega) (by rw [hs2]; omega)
      (fun w3 hw3 => way1_seq 4 w1.heap.size w1.heap.size b m (onL l) x w3 HFX.out (by have := hw3.size; omega) (L2.out.kept (KpN.of_below hw3 (by omega) (by omega)))))
    clear bw hs2
    go_wp2_with fail
    refine HCO.out.mono ?_
    rintro e w4 ⟨A4, c4, rfl, o4, b4⟩
    have O4 := Lib.hid (o4.base B2.out.size)
    have B4 := Lib.hid (below3 B2.out b4)
    clear o4 b4 HCO
    go_wp2_with fail
    exact bodyPost_ret (results_tmp2 rfl _ _ _) rfl (by rw [HR.out]; exact ⟨A4, c4, rfl, O4.out, B4.out⟩)
  · have HR : Hid (rr = (1, [])) := Lib.hid (HRR.out.symm.trans (show forR l x = (1, []) from if_neg hok))
    have B1 := Lib.hid b1
    clear hok b1
    go_wp2_with fail
    exact bodyPost_ret (results_tmp2 rfl _ _ _) rfl (by rw [HR.out]; exact retN_no 1 B1.out)

set_option maxRecDepth 100000 in
set_option maxHeartbeats 4000000 in
theorem pdone_any (A : Option Addr) (n c : Nat) (l : List Tm) (x : Int) (w : World) (hx : Tms w A n c l) :
    Calls Try.prog 11 #[.slice A n c, .int .i64 x] w (RetNJ (doneR l x) w) := by
  have HX := Lib.hid hx
  have LX := Lib.hid hx.1
  have hnc := hx.2.1
  clear hx
  by_cases hok : okJ l
  · have HC := Lib.hid (checkR_yes hok)
    have hl := hok.1
    have hn : n ≤ 256 := by rw [← LX.out]; exact hl
    have HR : Hid (doneR l x = (0, goesL l x, leftL l x)) := Lib.hid (if_pos hok)
    rw [HR.out]
    obtain ⟨zs, hzs⟩ : ∃ zs, goesL l x = zs := ⟨_, rfl⟩
    have HZS := Lib.hid hzs
    rw [hzs]
    obtain ⟨ts, hts⟩ : ∃ ts, leftL l x = ts := ⟨_, rfl⟩
    have HTS := Lib.hid hts
    rw [hts]
    clear hok hl HR hzs hts
    go_enter Try.func11, Try.ntmps11
    go_wp2_with fail
    refine (pcheck_any A n c l _ HX.out).mono ?_
    rw [HC.out]
    rintro e w1 ⟨rfl, b1⟩
    have B1 := Lib.hid b1
    clear b1
    go_wp2_with fail
    go_loopw [8, 9, 19] (fun tu tv t wr => ∃ (k : Nat) (Ao : Option Addr) (co : Nat) (ys : List Int) (Bo : Option Addr) (do_ : Nat) (xs : List Tm), k ≤ n ∧ t = .int .i64 k ∧ tu = .slice Ao ys.length co ∧ tv = .slice Bo xs.length do_ ∧ ys.length ≤ k ∧ xs.length ≤ k ∧ Hid (ys = goesL (l.take k) x) ∧ Hid (xs = leftL (l.take k) x) ∧ Hid (OwnI 2 wr w.heap.size Ao co ys) ∧ Hid (OwnT 37 wr w.heap.size Bo do_ xs) ∧ Hid (Below w.heap.size w wr)) (fun _ _ t _ => n - (intOf t).toNat)
    case atStart => exact ⟨0, none, 0, [], none, 0, [], by omega, rfl, rfl, rfl, Nat.le_refl _, Nat.le_refl _, Lib.hid rfl, Lib.hid rfl, Lib.hid (OwnI.nil_ _ _ _), Lib.hid (OwnT.nil_ _ _ _), B1⟩
    case round =>
      clear B1
      rename World => wr
      obtain ⟨k, Ao, co, ys, Bo, do_, xs, hk, rfl, rfl, rfl, hyl, hxl, YS, XS, OY, OX, BW⟩ := hrel
      by_cases hkn : k < n
      · obtain ⟨bL, oL, rfl, hbL, c0, c1⟩ := (HX.out.below BW.out).at_ hkn
        have hkl : k < l.length := by rw [LX.out]; exact hkn
        have HNX := Lib.hid (goes_next hkl x)
        have HNL := Lib.hid (left_next hkl x)
        have HFT := Lib.hid (HX.out.fit hkn)
        obtain ⟨z1, hz1⟩ : ∃ z, jO l k = z := ⟨_, rfl⟩
        obtain ⟨z2, hz2⟩ : ∃ z, jA l k = z := ⟨_, rfl⟩
        have HIT := Lib.hid (show ith l k = (z1, z2) by rw [← hz1, ← hz2]; rfl)
        rw [hz1] at c0 HFT HNX HNL
        rw [hz2] at c1 HFT HNX
        have k1 := Bk.new wr 37 #[.int .i64 z1, .int .i64 z2]
        have b1 := (Below.refl wr.heap.size wr).alloc (Nat.le_refl _) (.cells #[.int .i64 z1, .int .i64 z2] 37)
        have d0 := k1.c0
        have d1 := k1.c1
        have OX3 := Lib.hid (OX.out.below b1)
        have OY3 := Lib.hid (OY.out.below b1)
        have B3 := Lib.hid (below3 BW.out b1)
        by_cases he : z1 = x
        · have t0 : (z1 == x) = true := by simpa using he
          have YN : Hid (ys ++ [z2] = goesL (l.take (k + 1)) x) := Lib.hid (by rw [HNX.out, if_pos he, ← YS.out])
          have XN : Hid (xs = leftL (l.take (k + 1)) x) := Lib.hid (by rw [HNL.out, if_pos he]; exact XS.out)
          have b2 := (Below.refl (wr.alloc (.cells #[.int .i64 z1, .int .i64 z2] 37)).heap.size _).alloc (Nat.le_refl _) (.cells #[.int .i64 z2] 2)
          have O4 := Lib.hid (OY3.out.below b2)
          have X4 := Lib.hid (OX3.out.below b2)
          have B4 := Lib.hid (below3 B3.out b2)
          have T1 := Lib.hid (ints1 (wr.alloc (.cells #[.int .i64 z1, .int .i64 z2] 37)) 2 HFT.out.2)
          have HS2 := Lib.hid B4.out.size
          rw [size_alloc] at T1
          clear he HNX HNL YS XS hz1 hz2 k1 b1 b2 OY OX BW OX3 OY3 B3
          go_wp2_with (at_builtin; refine wpList_append_ints _ rfl _ _ 27 rfl 2 Try.underlying27 infoI8 w.heap.size Ao co ys _ rfl rfl O4.out (some ⟨wr.heap.size + 1, 0, none⟩) 1 1 [z2] rfl T1.out (by omega) HS2.out ?_; intro A2 c2 w4 ho hgr; have O5 := Lib.hid ho; have X5 := Lib.hid (X4.out.pastI O4.out hgr); have B5 := Lib.hid (below_app B4.out O4.out hgr HS2.out); clear ho hgr T1 O4 B4 X4)
          go_roundw
          case rel => exact ⟨k + 1, A2, c2, ys ++ [z2], Bo, do_, xs, by omega, by go_num, by simp, rfl, by simp; omega, by omega, YN, XN, O5, X5, B5⟩
          case measure => simp [intOf]; omega
        · have t0 : (z1 == x) = false := by simpa using he
          have YN : Hid (ys = goesL (l.take (k + 1)) x) := Lib.hid (by rw [HNX.out, if_neg he]; exact YS.out)
          have XN : Hid (xs ++ [(z1, z2)] = leftL (l.take (k + 1)) x) := Lib.hid (by rw [HNL.out, if_neg he, HIT.out, ← XS.out])
          have b2 := (Below.refl (wr.alloc (.cells #[.int .i64 z1, .int .i64 z2] 37)).heap.size _).alloc (Nat.le_refl _) (.cells #[.int .i64 z1, .int .i64 z2] 37)
          have O4 := Lib.hid (OX3.out.below b2)
          have Y4 := Lib.hid (OY3.out.below b2)
          have B4 := Lib.hid (below3 B3.out b2)
          have T1 := Lib.hid (tms1 (wr.alloc (.cells #[.int .i64 z1, .int .i64 z2] 37)) 37 HFT.out.1 HFT.out.2)
          have HS2 := Lib.hid B4.out.size
          rw [size_alloc] at T1
          clear he HNX HNL YS XS hz1 hz2 k1 b1 b2 OY OX BW OX3 OY3 B3
          go_wp2_with (at_builtin; refine wpList_append_tms _ rfl _ _ 22 rfl 37 _ rfl Try.underlying22 infoT w.heap.size Bo do_ xs _ rfl rfl O4.out (some ⟨wr.heap.size + 1, 0, none⟩) 1 1 [(z1, z2)] rfl T1.out (by omega) HS2.out ?_; intro A2 c2 w4 ho hgr; have O5 := Lib.hid ho; have Y5 := Lib.hid (Y4.out.pastT O4.out hgr); have B5 := Lib.hid (below_appT B4.out O4.out hgr HS2.out); clear ho hgr T1 O4 B4 Y4)
          go_roundw
          case rel => exact ⟨k + 1, Ao, co, ys, A2, c2, xs ++ [(z1, z2)], by omega, by go_num, rfl, by simp, by omega, by simp; omega, YN, XN, Y5, O5, B5⟩
          case measure => simp [intOf]; omega
      · obtain rfl : n = k := by omega
        have e1 : ys = zs := by rw [YS.out, ← HZS.out, ← LX.out, List.take_length]
        have e2 : xs = ts := by rw [XS.out, ← HTS.out, ← LX.out, List.take_length]
        subst e1 e2
        clear YS XS
        go_wp2_with fail
        exact bodyPost_ret (results_tmp3 rfl _ _ _) rfl ⟨Ao, co, Bo, do_, rfl, OY.out, OX.out, BW.out⟩
  · have HC := Lib.hid (checkR_no hok)
    have HR : Hid (doneR l x = (1, [], [])) := Lib.hid (if_neg hok)
    rw [HR.out]
    clear hok HR
    go_enter Try.func11, Try.ntmps11
    go_wp2_with fail
    refine (pcheck_any A n c l _ HX.out).mono ?_
    rw [HC.out]
    rintro e w1 ⟨rfl, b1⟩
    have B1 := Lib.hid b1
    clear b1
    go_wp2_with fail
    exact bodyPost_ret (results_tmp3 rfl _ _ _) rfl (by exact retNJ_no 1 B1.out)

set_option maxRecDepth 100000 in
set_option maxHeartbeats 4000000 in
theorem pwait_any (A : Option Addr) (n c : Nat) (l : List Tm) (x y : Int) (w : World) (hx : Tms w A n c l) (fx : Fit x) (fy : Fit y) :
    Calls Try.prog 9 #[.slice A n c, .int .i64 x, .int .i64 y] w (RetJ (waitR l x y) w) := by
  have HX := Lib.hid hx
  have LX := Lib.hid hx.1
  have hnc := hx.2.1
  have HC := Lib.hid (waits_any A n c l w hx)
  have HFX : Hid (FitI (x, y)) := Lib.hid ⟨fx, fy⟩
  obtain ⟨rr, hrr⟩ : ∃ rr, waitR l x y = rr := ⟨_, rfl⟩
  rw [hrr]
  have HRR := Lib.hid hrr
  clear hrr
  clear hx fx fy
  go_enter Try.func9, Try.ntmps9
  go_wp2_with fail
  refine HC.out.mono ?_
  clear HC
  rintro e w1 (⟨hok, b, m, rfl, hz, hb, b1⟩ | ⟨hok, rfl, b1⟩)
  · have HOK := Lib.hid hok
    have B1 := Lib.hid b1
    have HZ := Lib.hid hz
    have hl := hok.1
    have hn : n ≤ 256 := by rw [← LX.out]; exact hl
    clear hz hb b1 hl
    by_cases hx0 : 0 ≤ x
    · have tx : decide (x < 0) = false := decide_eq_false (by omega)
      by_cases hy0 : 0 ≤ y
      · have ty : decide (y < 0) = false := decide_eq_false (by omega)
        by_cases hon : 0 ≤ onL l y
        · have HR : Hid (rr = (6, [])) := Lib.hid (HRR.out.symm.trans (show waitR l x y = (6, []) from by unfold waitR; rw [if_pos ⟨hok, hx0, hy0⟩, if_pos hon]))
          have HH := Lib.hid (decide_eq_true hon)
          clear hok hon hx0 hy0
          go_wp2_with fail
          refine (phas_any b m (onL l) y _ HZ.out HFX.out.2).mono ?_
          rw [HH.out]
          rintro e w2 ⟨rfl, rfl⟩
          go_wp2_with fail
          exact bodyPost_ret (results_tmp2 rfl _ _ _) rfl (by rw [HR.out]; exact retJ_no 6 B1.out)
        · have HH := Lib.hid (decide_eq_false hon)
          by_cases hm : x = y ∨ y ∈ wayJ l x
          · have HR : Hid (rr = (9, [])) := Lib.hid (HRR.out.symm.trans (show waitR l x y = (9, []) from by unfold waitR; rw [if_pos ⟨hok, hx0, hy0⟩, if_neg hon, if_pos hm]))
            have HE := Lib.hid (decide_eq_true hm)
            clear hok hon hx0 hy0 hm
            go_wp2_with fail
            refine (phas_any b m (onL l) y _ HZ.out HFX.out.2).mono ?_
            rw [HH.out]
            rintro e w2 ⟨rfl, rfl⟩
            go_wp2_with fail
            refine (leads_any b m l x y (wayJ l x) _ HZ.out HFX.out.1 (HOK.out.path x)).mono ?_
            rw [HE.out]
            rintro e w3 ⟨rfl, b3⟩
            have B3 := Lib.hid (below3 B1.out b3)
            clear b3
            go_wp2_with fail
            exact bodyPost_ret (results_tmp2 rfl _ _ _) rfl (by rw [HR.out]; exact retJ_no 9 B3.out)
          · have HE := Lib.hid (decide_eq_false hm)
            by_cases hf : n = 256
            · have HR : Hid (rr = (7, [])) := Lib.hid (HRR.out.symm.trans (show waitR l x y = (7, []) from by unfold waitR; rw [if_pos ⟨hok, hx0, hy0⟩, if_neg hon, if_neg hm, if_pos (by rw [LX.out]; exact hf)]))
              have tf : ((n : Int) == 256) = true := by simp; omega
              clear hok hon hx0 hy0 hm hf
              go_wp2_with fail
              refine (phas_any b m (onL l) y _ HZ.out HFX.out.2).mono ?_
              rw [HH.out]
              rintro e w2 ⟨rfl, rfl⟩
              go_wp2_with fail
              refine (leads_any b m l x y (wayJ l x) _ HZ.out HFX.out.1 (HOK.out.path x)).mono ?_
              rw [HE.out]
              rintro e w3 ⟨rfl, b3⟩
              have B3 := Lib.hid (below3 B1.out b3)
              clear b3
              go_wp2_with fail
              exact bodyPost_ret (results_tmp2 rfl _ _ _) rfl (by rw [HR.out]; exact retJ_no 7 B3.out)
            · have HR : Hid (rr = (0, l ++ [(x, y)])) := Lib.hid (HRR.out.symm.trans (show waitR l x y = (0, l ++ [(x, y)]) from by unfold waitR; rw [if_pos ⟨hok, hx0, hy0⟩, if_neg hon, if_neg hm, if_neg (by rw [LX.out]; exact hf)]))
              have tf : ((n : Int) == 256) = false := by simp; omega
              clear hok hon hx0 hy0 hm hf
              go_wp2_with fail
              refine (phas_any b m (onL l) y _ HZ.out HFX.out.2).mono ?_
              rw [HH.out]
              rintro e w2 ⟨rfl, rfl⟩
              go_wp2_with fail
              refine (leads_any b m l x y (wayJ l x) _ HZ.out HFX.out.1 (HOK.out.path x)).mono ?_
              rw [HE.out]
              rintro e w3 ⟨rfl, b3⟩
              have B3 := Lib.hid (below3 B1.out b3)
              clear b3
              go_wp2_with fail
              refine (clone_any A n c l _ (HX.out.below B3.out) (by omega)).mono ?_
              rintro e w5 ⟨A5, c5, rfl, o5, b5⟩
              have B5 := Lib.hid (below3 B3.out b5)
              have b6 := (Below.refl w5.heap.size w5).alloc (Nat.le_refl _) (.cells #[.int .i64 x, .int .i64 y] 37)
              have O6 := Lib.hid (OwnT.below (o5.base B3.out.size) b6)
              have B6 := Lib.hid (below3 B5.out b6)
              have HS6 := Lib.hid B6.out.size
              have T6 := Lib.hid (tms1 w5 37 HFX.out.1 HFX.out.2)
              clear o5 b5 b6
              go_wp2_with (at_builtin; refine wpList_append_tms _ rfl _ _ 22 rfl 37 _ rfl Try.underlying22 infoT w.heap.size A5 c5 l _ rfl rfl O6.out (some ⟨w5.heap.size, 0, none⟩) 1 1 [(x, y)] rfl T6.out (by have := LX.out; omega) HS6.out ?_; intro A7 c7 w7 ho7 hg7; have O7 := Lib.hid ho7; have B7 := Lib.hid (below_appT B6.out O6.out hg7 HS6.out); clear ho7 hg7)
              exact bodyPost_ret (results_tmp2 rfl _ _ _) rfl (by rw [HR.out]; exact ⟨A7, c7, by simp, O7.out, B7.out⟩)
      · have ty : decide (y < 0) = true := decide_eq_true (by omega)
        have HR : Hid (rr = (1, [])) := Lib.hid (HRR.out.symm.trans (show waitR l x y = (1, []) from by unfold waitR; rw [if_neg (by omega)]))
        clear hok hx0 hy0
        go_wp2_with fail
        exact bodyPost_ret (results_tmp2 rfl _ _ _) rfl (by rw [HR.out]; exact retJ_no 1 B1.out)
    · have tx : decide (x < 0) = true := decide_eq_true (by omega)
      have HR : Hid (rr = (1, [])) := Lib.hid (HRR.out.symm.trans (show waitR l x y = (1, []) from by unfold waitR; rw [if_neg (by omega)]))
      clear hok hx0
      go_wp2_with fail
      exact bodyPost_ret (results_tmp2 rfl _ _ _) rfl (by rw [HR.out]; exact retJ_no 1 B1.out)
  · have HR : Hid (rr = (1, [])) := Lib.hid (HRR.out.symm.trans (show waitR l x y = (1, []) from by unfold waitR; rw [if_neg (fun q => hok q.1)]))
    have B1 := Lib.hid b1
    clear hok b1
    go_wp2_with fail
    exact bodyPost_ret (results_tmp2 rfl _ _ _) rfl (by rw [HR.out]; exact retJ_no 1 B1.out)

set_option maxRecDepth 100000 in
set_option maxHeartbeats 4000000 in
theorem pdrop_any (A : Option Addr) (n c : Nat) (l : List Tm) (x : Int) (w : World) (hx : Tms w A n c l) (fx : Fit x) :
    Calls Try.prog 13 #[.slice A n c, .int .i64 x] w (RetJ (dropR l x) w) := by
  have b0 := (Below.refl w.heap.size w).alloc (Nat.le_refl _) (.cells #[.int .i64 x] 2)
  have k0 := Bk.new w 2 #[.int .i64 x]
  have HX := Lib.hid (hx.below b0)
  have LX := Lib.hid hx.1
  have hnc := hx.2.1
  have HC := Lib.hid (waits_any A n c l (w.alloc (.cells #[.int .i64 x] 2)) (hx.below b0))
  have HFX := Lib.hid fx
  have B0 := Lib.hid b0
  have K0 := Lib.hid k0
  obtain ⟨rr, hrr⟩ : ∃ rr, dropR l x = rr := ⟨_, rfl⟩
  rw [hrr]
  have HRR := Lib.hid hrr
  clear hrr
  clear hx fx b0 k0
  go_enter Try.func13, Try.ntmps13
  go_wp2_with fail
  refine HC.out.mono ?_
  clear HC
  rintro e w1 (⟨hok, b, m, rfl, hz, hb, b1⟩ | ⟨hok, rfl, b1⟩)
  · have B1 := Lib.hid (below3 B0.out b1)
    have K1 := Lib.hid (K0.out.below b1 K0.out.lt)
    have HX1 := Lib.hid (HX.out.below b1)
    have HZ := Lib.hid hz
    have hl := hok.1
    have hn : n ≤ 256 := by rw [← LX.out]; exact hl
    have q1 := K1.out.one
    clear hz hb b1 hl K0 HX
    by_cases hon : 0 ≤ onL l x
    · have HR : Hid (rr = (0, lessJ l x)) := Lib.hid (HRR.out.symm.trans (show dropR l x = (0, lessJ l x) from by unfold dropR; rw [if_pos hok, if_pos hon]))
      have HH := Lib.hid (decide_eq_true hon)
      have HM := Lib.hid (onL_mem hon)
      clear hok hon
      go_wp2_with fail
      refine (phas_any b m (onL l) x _ HZ.out HFX.out).mono ?_
      rw [HH.out]
      rintro e w2 ⟨rfl, rfl⟩
      go_wp2_with fail
      refine (clone_any A n c l _ HX1.out (by omega)).mono ?_
      rintro e w3 ⟨A3, c3, rfl, o3, b3⟩
      have hpos : 0 < l.length := by obtain ⟨j, hj, _⟩ := mem_whos.1 HM.out; omega
      obtain ⟨g3, hA3, hb3⟩ : ∃ g, A3 = some ⟨g, 0, none⟩ ∧ w2.heap.size ≤ g := by
        obtain ⟨g, cap, hv, hb, hlt⟩ := o3.2.2.form hpos
        injection hv with hA _ _
        exact ⟨g, hA, hb⟩
      subst hA3
      have K3 := Lib.hid (K1.out.below b3 K1.out.lt)
      have B3 := Lib.hid (below3 B1.out b3)
      have hne : g3 ≠ w.heap.size := by have := K1.out.lt; omega
      have HBG := Lib.hid hb3
      have HSW := Lib.hid B1.out.size
      have HDE := Lib.hid (pdel_any g3 l.length c3 w.heap.size w2.heap.size l x w3 o3 rfl K3.out hne HM.out)
      clear o3 b3 hpos hne hb3 q1
      go_wp2_with fail
      refine HDE.out.mono ?_
      rintro e w4 ⟨rfl, o4, hg4⟩
      have O4 := Lib.hid (OwnT.base o4 HSW.out)
      have B4 := Lib.hid (B3.out.grown hg4 B3.out.size (fun k hk => by injection hk with hk; have := HBG.out; have := HSW.out; omega))
      clear o4 hg4 HDE
      go_wp2_with fail
      exact bodyPost_ret (results_tmp2 rfl _ _ _) rfl (by rw [HR.out]; exact ⟨_, c3, rfl, O4.out, B4.out⟩)
    · have HR : Hid (rr = (5, [])) := Lib.hid (HRR.out.symm.trans (show dropR l x = (5, []) from by unfold dropR; rw [if_pos hok, if_neg hon]))
      have HH := Lib.hid (decide_eq_false hon)
      clear hok hon
      go_wp2_with fail
      refine (phas_any b m (onL l) x _ HZ.out HFX.out).mono ?_
      rw [HH.out]
      rintro e w2 ⟨rfl, rfl⟩
      go_wp2_with fail
      exact bodyPost_ret (results_tmp2 rfl _ _ _) rfl (by rw [HR.out]; exact retJ_no 5 B1.out)
  · have HR : Hid (rr = (1, [])) := Lib.hid (HRR.out.symm.trans (show dropR l x = (1, []) from if_neg hok))
    have B1 := Lib.hid (below3 B0.out b1)
    clear hok b1
    go_wp2_with fail
    exact bodyPost_ret (results_tmp2 rfl _ _ _) rfl (by rw [HR.out]; exact retJ_no 1 B1.out)

end Go.Proofs.Ytkffmohgnbnhkaa

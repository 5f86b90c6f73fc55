/-
  Layer 14: the document's Admit, Leave and Count.
-/
import Derived.Test.YtkgdfaachpogmaaTnb
namespace Go.Proofs.Ytkgdfaachpogmaa
open Go.RowKit

theorem okTn_fit {x : Tn} (h : okTn x) : FitTn x := by
  obtain ⟨h1, h2, h3, h4, h5⟩ := h
  unfold FitTn Fit
  omega

set_option maxHeartbeats 4000000 in
theorem radmit_tn (A : Option Addr) (n c : Nat) (l : List Tn) (i : Int) (w : World) (hx : Tns w A n c l) (hn : n ≤ 1000) :
    Calls Try.prog 10 #[.slice A n c, .int .i64 i] w (ListTn (admitLn l i) w) := by
  have HX := Lib.hid hx
  have LX := Lib.hid hx.1
  have hnc := hx.2.1
  clear hx
  by_cases hf : findLn l i = 0
  · obtain ⟨ho, k, rfl, hkl⟩ := findLn_ok hf
    have hkn : k < n := by rw [← LX.out]; exact hkl
    obtain ⟨⟨wt, qu, li, tg, rn⟩, hz⟩ : ∃ x, tth l k = x := ⟨_, rfl⟩
    have HZ := Lib.hid hz
    have hok := ho.2 k hkl
    rw [hz] at hok
    obtain ⟨x1, x2, x3, x4, x5⟩ := id hok
    dsimp only at x1 x2 x3 x4 x5
    have HFI := Lib.hid hf
    clear hz ho hkl
    by_cases hc : li = qu
    · have HR : Hid (admitLn l (k : Int) = (10, [])) := Lib.hid (changeLn_err (y := ⟨wt, qu, li, tg, rn⟩) hf (by rw [HZ.out]; exact moreTn_no (x := ⟨wt, qu, li, tg, rn⟩) (by show ¬ (0 ≤ li + 1 ∧ li + 1 ≤ qu); omega)) (by decide))
      rw [HR.out]
      have t0 : (li == qu) = true := by simpa using hc
      clear hf hc HR hok x1 x2 x3 x4 x5
      have BB := Lib.hid (Below.refl w.heap.size w)
      go_enter Try.func10, Try.ntmps10
      go_wp2_with fail
      refine (rfind_tn A n c l _ _ HX.out).mono ?_
      rw [HFI.out]
      rintro e U1 ⟨rfl, b1⟩
      have BB := Lib.hid b1
      clear b1
      obtain ⟨bL, oL, rfl, hbL, c0, c1, c2, c3, c4⟩ := (HX.out.below BB.out).at_ hkn
      rw [HZ.out] at c0 c1 c2 c3 c4
      dsimp only at c0 c1 c2 c3 c4
      have kn := Bk.new U1 35 #[.int .i64 wt, .int .i64 qu, .int .i64 li, .int .i64 tg, .int .i64 rn]
      have ba := (Below.refl U1.heap.size U1).alloc (Nat.le_refl _) (.cells #[.int .i64 wt, .int .i64 qu, .int .i64 li, .int .i64 tg, .int .i64 rn] 35)
      have hgb := BB.out.size
      replace BB := Lib.hid (below3 BB.out ba)
      obtain ⟨gx, hg⟩ : ∃ g, U1.heap.size = g := ⟨_, rfl⟩
      obtain ⟨V1, hW⟩ : ∃ W, U1.alloc (.cells #[.int .i64 wt, .int .i64 qu, .int .i64 li, .int .i64 tg, .int .i64 rn] 35) = W := ⟨_, rfl⟩
      have Kx := Lib.hid kn
      rw [hW] at BB Kx
      rw [hg] at Kx hgb
      have HGx := Lib.hid hg
      have HWx := Lib.hid hW
      have HBx := Lib.hid hgb
      clear hW hg kn ba hgb
      go_upto_region 5 with fail
      rw [HWx.out]
      try rw [HGx.out]
      clear HWx HGx
      clear c0 c1 c2 c3 c4 hbL
      obtain ⟨qx_0, qx_1, qx_2, qx_3, qx_4⟩ := Kx.out.c5
      have lx := Kx.out.lt
      go_wp2
      exact bodyPost_ret (results_tmp2 rfl _ _ _) rfl (by exact listTn_no 10 BB.out)
    · have HR : Hid (admitLn l (k : Int) = (0, l.set k ⟨wt, qu, li + 1, tg, rn⟩)) := Lib.hid (changeLn_ok hf (by rw [HZ.out, show li + 1 = li + 1 by omega]; exact moreTn_ok (x := ⟨wt, qu, li, tg, rn⟩) (by show 0 ≤ li + 1 ∧ li + 1 ≤ qu; omega)))
      rw [HR.out]
      obtain ⟨p, hp⟩ : ∃ p, l.set k ⟨wt, qu, li + 1, tg, rn⟩ = p := ⟨_, rfl⟩
      rw [hp]
      have HP := Lib.hid hp
      clear hp
      have t0 : (li == qu) = false := by simpa using hc
      have HT : Hid (okTn ⟨wt, qu, li + 1, tg, rn⟩) := Lib.hid ⟨x1, x2, (by show 0 ≤ li + 1 ∧ li + 1 ≤ qu; omega), x4, x5⟩
      have hw : IntKind.i64.wrap (li + 1) = li + 1 := by rw [IntKind.wrap_i64]; omega
      clear hf hc HR hok x1 x2 x3 x4 x5
      have BB := Lib.hid (Below.refl w.heap.size w)
      go_enter Try.func10, Try.ntmps10
      go_wp2_with fail
      refine (rfind_tn A n c l _ _ HX.out).mono ?_
      rw [HFI.out]
      rintro e U1 ⟨rfl, b1⟩
      have BB := Lib.hid b1
      clear b1
      obtain ⟨bL, oL, rfl, hbL, c0, c1, c2, c3, c4⟩ := (HX.out.below BB.out).at_ hkn
      rw [HZ.out] at c0 c1 c2 c3 c4
      dsimp only at c0 c1 c2 c3 c4
      have kn := Bk.new U1 35 #[.int .i64 wt, .int .i64 qu, .int .i64 li, .int .i64 tg, .int .i64 rn]
      have ba := (Below.refl U1.heap.size U1).alloc (Nat.le_refl _) (.cells #[.int .i64 wt, .int .i64 qu, .int .i64 li, .int .i64 tg, .int .i64 rn] 35)
      have hgb := BB.out.size
      replace BB := Lib.hid (below3 BB.out ba)
      obtain ⟨gx, hg⟩ : ∃ g, U1.heap.size = g := ⟨_, rfl⟩
      obtain ⟨V1, hW⟩ : ∃ W, U1.alloc (.cells #[.int .i64 wt, .int .i64 qu, .int .i64 li, .int .i64 tg, .int .i64 rn] 35) = W := ⟨_, rfl⟩
      have Kx := Lib.hid kn
      rw [hW] at BB Kx
      rw [hg] at Kx hgb
      have HGx := Lib.hid hg
      have HWx := Lib.hid hW
      have HBx := Lib.hid hgb
      clear hW hg kn ba hgb
      go_upto_region 5 with fail
      rw [HWx.out]
      try rw [HGx.out]
      clear HWx HGx
      clear c0 c1 c2 c3 c4 hbL
      obtain ⟨qx_0, qx_1, qx_2, qx_3, qx_4⟩ := Kx.out.c5
      have lx := Kx.out.lt
      obtain ⟨fx_0, fx_1, fx_2, fx_3, fx_4⟩ := Kx.out.f5
      have x0 : Bk _ gx 35 #[.int .i64 wt, .int .i64 qu, .int .i64 (li + 1), .int .i64 tg, .int .i64 rn] := Kx.out.set_ 2 (.int .i64 (li + 1))
      have xb := BB.out.setCell (p := ⟨gx, 2, none⟩) HBx.out (.int .i64 (li + 1))
      obtain ⟨X2, hX⟩ : ∃ X, World.setCell V1 ⟨gx, 2, none⟩ (.int .i64 (li + 1)) = X := ⟨_, rfl⟩
      rw [hX] at x0 xb
      have HX := Lib.hid hX
      replace Kx := Lib.hid x0
      replace BB := Lib.hid xb
      clear hX x0 xb
      go_upto_region 8 with fail
      rw [HX.out]
      clear HX
      clear qx_0 qx_1 qx_2 qx_3 qx_4 lx fx_0 fx_1 fx_2 fx_3 fx_4
      obtain ⟨qx_0, qx_1, qx_2, qx_3, qx_4⟩ := Kx.out.c5
      have lx := Kx.out.lt
      go_wp2_with fail
      refine (with_tn _ n c l k wt qu (li + 1) tg rn _ (HX.out.below BB.out) hkn hn (okTn_fit HT.out)).mono ?_
      rw [HP.out]
      rintro e U9 ⟨A9, c9, rfl, ho, b9⟩
      have OO := Lib.hid (ho.base BB.out.size)
      have B9 := Lib.hid (below3 BB.out b9)
      clear ho b9
      clear qx_0 qx_1 qx_2 qx_3 qx_4 lx
      go_wp2
      exact bodyPost_ret (results_tmp2 rfl _ _ _) rfl ⟨A9, c9, rfl, OO.out, B9.out⟩
  · obtain ⟨e0, he0⟩ : ∃ e0, findLn l i = e0 := ⟨_, rfl⟩
    rw [he0] at hf
    have HR : Hid (admitLn l i = (e0, [])) := Lib.hid (changeLn_no he0 hf)
    rw [HR.out]
    have HFI := Lib.hid he0
    have t0 : (e0 != 0) = true := by simpa using hf
    clear hf he0 HR
    have BB := Lib.hid (Below.refl w.heap.size w)
    go_enter Try.func10, Try.ntmps10
    go_wp2_with fail
    refine (rfind_tn A n c l _ _ HX.out).mono ?_
    rw [HFI.out]
    rintro e U1 ⟨rfl, b1⟩
    have BB := Lib.hid b1
    clear b1
    go_wp2
    exact bodyPost_ret (results_tmp2 rfl _ _ _) rfl (by exact listTn_no e0 BB.out)

set_option maxHeartbeats 4000000 in
theorem rleave_tn (A : Option Addr) (n c : Nat) (l : List Tn) (i : Int) (w : World) (hx : Tns w A n c l) (hn : n ≤ 1000) :
    Calls Try.prog 12 #[.slice A n c, .int .i64 i] w (ListTn (leaveLn l i) w) := by
  have HX := Lib.hid hx
  have LX := Lib.hid hx.1
  have hnc := hx.2.1
  clear hx
  by_cases hf : findLn l i = 0
  · obtain ⟨ho, k, rfl, hkl⟩ := findLn_ok hf
    have hkn : k < n := by rw [← LX.out]; exact hkl
    obtain ⟨⟨wt, qu, li, tg, rn⟩, hz⟩ : ∃ x, tth l k = x := ⟨_, rfl⟩
    have HZ := Lib.hid hz
    have hok := ho.2 k hkl
    rw [hz] at hok
    obtain ⟨x1, x2, x3, x4, x5⟩ := id hok
    dsimp only at x1 x2 x3 x4 x5
    have HFI := Lib.hid hf
    clear hz ho hkl
    by_cases hc : li = 0
    · have HR : Hid (leaveLn l (k : Int) = (9, [])) := Lib.hid (changeLn_err (y := ⟨wt, qu, li, tg, rn⟩) hf (by rw [HZ.out]; exact moreTn_no (x := ⟨wt, qu, li, tg, rn⟩) (by show ¬ (0 ≤ li + (-1) ∧ li + (-1) ≤ qu); omega)) (by decide))
      rw [HR.out]
      have t0 : (li == 0) = true := by simpa using hc
      clear hf hc HR hok x1 x2 x3 x4 x5
      have BB := Lib.hid (Below.refl w.heap.size w)
      go_enter Try.func12, Try.ntmps12
      go_wp2_with fail
      refine (rfind_tn A n c l _ _ HX.out).mono ?_
      rw [HFI.out]
      rintro e U1 ⟨rfl, b1⟩
      have BB := Lib.hid b1
      clear b1
      obtain ⟨bL, oL, rfl, hbL, c0, c1, c2, c3, c4⟩ := (HX.out.below BB.out).at_ hkn
      rw [HZ.out] at c0 c1 c2 c3 c4
      dsimp only at c0 c1 c2 c3 c4
      have kn := Bk.new U1 35 #[.int .i64 wt, .int .i64 qu, .int .i64 li, .int .i64 tg, .int .i64 rn]
      have ba := (Below.refl U1.heap.size U1).alloc (Nat.le_refl _) (.cells #[.int .i64 wt, .int .i64 qu, .int .i64 li, .int .i64 tg, .int .i64 rn] 35)
      have hgb := BB.out.size
      replace BB := Lib.hid (below3 BB.out ba)
      obtain ⟨gx, hg⟩ : ∃ g, U1.heap.size = g := ⟨_, rfl⟩
      obtain ⟨V1, hW⟩ : ∃ W, U1.alloc (.cells #[.int .i64 wt, .int .i64 qu, .int .i64 li, .int .i64 tg, .int .i64 rn] 35) = W := ⟨_, rfl⟩
      have Kx := Lib.hid kn
      rw [hW] at BB Kx
      rw [hg] at Kx hgb
      have HGx := Lib.hid hg
      have HWx := Lib.hid hW
      have HBx := Lib.hid hgb
      clear hW hg kn ba hgb
      go_upto_region 5 with fail
      rw [HWx.out]
      try rw [HGx.out]
      clear HWx HGx
      clear c0 c1 c2 c3 c4 hbL
      obtain ⟨qx_0, qx_1, qx_2, qx_3, qx_4⟩ := Kx.out.c5
      have lx := Kx.out.lt
      go_wp2
      exact bodyPost_ret (results_tmp2 rfl _ _ _) rfl (by exact listTn_no 9 BB.out)
    · have HR : Hid (leaveLn l (k : Int) = (0, l.set k ⟨wt, qu, li - 1, tg, rn⟩)) := Lib.hid (changeLn_ok hf (by rw [HZ.out, show li - 1 = li + (-1) by omega]; exact moreTn_ok (x := ⟨wt, qu, li, tg, rn⟩) (by show 0 ≤ li + (-1) ∧ li + (-1) ≤ qu; omega)))
      rw [HR.out]
      obtain ⟨p, hp⟩ : ∃ p, l.set k ⟨wt, qu, li - 1, tg, rn⟩ = p := ⟨_, rfl⟩
      rw [hp]
      have HP := Lib.hid hp
      clear hp
      have t0 : (li == 0) = false := by simpa using hc
      have HT : Hid (okTn ⟨wt, qu, li - 1, tg, rn⟩) := Lib.hid ⟨x1, x2, (by show 0 ≤ li - 1 ∧ li - 1 ≤ qu; omega), x4, x5⟩
      have hw : IntKind.i64.wrap (li - 1) = li - 1 := by rw [IntKind.wrap_i64]; omega
      clear hf hc HR hok x1 x2 x3 x4 x5
      have BB := Lib.hid (Below.refl w.heap.size w)
      go_enter Try.func12, Try.ntmps12
      go_wp2_with fail
      refine (rfind_tn A n c l _ _ HX.out).mono ?_
      rw [HFI.out]
      rintro e U1 ⟨rfl, b1⟩
      have BB := Lib.hid b1
      clear b1
      obtain ⟨bL, oL, rfl, hbL, c0, c1, c2, c3, c4⟩ := (HX.out.below BB.out).at_ hkn
      rw [HZ.out] at c0 c1 c2 c3 c4
      dsimp only at c0 c1 c2 c3 c4
      have kn := Bk.new U1 35 #[.int .i64 wt, .int .i64 qu, .int .i64 li, .int .i64 tg, .int .i64 rn]
      have ba := (Below.refl U1.heap.size U1).alloc (Nat.le_refl _) (.cells #[.int .i64 wt, .int .i64 qu, .int .i64 li, .int .i64 tg, .int .i64 rn] 35)
      have hgb := BB.out.size
      replace BB := Lib.hid (below3 BB.out ba)
      obtain ⟨gx, hg⟩ : ∃ g, U1.heap.size = g := ⟨_, rfl⟩
      obtain ⟨V1, hW⟩ : ∃ W, U1.alloc (.cells #[.int .i64 wt, .int .i64 qu, .int .i64 li, .int .i64 tg, .int .i64 rn] 35) = W := ⟨_, rfl⟩
      have Kx := Lib.hid kn
      rw [hW] at BB Kx
      rw [hg] at Kx hgb
      have HGx := Lib.hid hg
      have HWx := Lib.hid hW
      have HBx := Lib.hid hgb
      clear hW hg kn ba hgb
      go_upto_region 5 with fail
      rw [HWx.out]
      try rw [HGx.out]
      clear HWx HGx
      clear c0 c1 c2 c3 c4 hbL
      obtain ⟨qx_0, qx_1, qx_2, qx_3, qx_4⟩ := Kx.out.c5
      have lx := Kx.out.lt
      obtain ⟨fx_0, fx_1, fx_2, fx_3, fx_4⟩ := Kx.out.f5
      have x0 : Bk _ gx 35 #[.int .i64 wt, .int .i64 qu, .int .i64 (li - 1), .int .i64 tg, .int .i64 rn] := Kx.out.set_ 2 (.int .i64 (li - 1))
      have xb := BB.out.setCell (p := ⟨gx, 2, none⟩) HBx.out (.int .i64 (li - 1))
      obtain ⟨X2, hX⟩ : ∃ X, World.setCell V1 ⟨gx, 2, none⟩ (.int .i64 (li - 1)) = X := ⟨_, rfl⟩
      rw [hX] at x0 xb
      have HX := Lib.hid hX
      replace Kx := Lib.hid x0
      replace BB := Lib.hid xb
      clear hX x0 xb
      go_upto_region 8 with fail
      rw [HX.out]
      clear HX
      clear qx_0 qx_1 qx_2 qx_3 qx_4 lx fx_0 fx_1 fx_2 fx_3 fx_4
      obtain ⟨qx_0, qx_1, qx_2, qx_3, qx_4⟩ := Kx.out.c5
      have lx := Kx.out.lt
      go_wp2_with fail
      refine (with_tn _ n c l k wt qu (li - 1) tg rn _ (HX.out.below BB.out) hkn hn (okTn_fit HT.out)).mono ?_
      rw [HP.out]
      rintro e U9 ⟨A9, c9, rfl, ho, b9⟩
      have OO := Lib.hid (ho.base BB.out.size)
      have B9 := Lib.hid (below3 BB.out b9)
      clear ho b9
      clear qx_0 qx_1 qx_2 qx_3 qx_4 lx
      go_wp2
      exact bodyPost_ret (results_tmp2 rfl _ _ _) rfl ⟨A9, c9, rfl, OO.out, B9.out⟩
  · obtain ⟨e0, he0⟩ : ∃ e0, findLn l i = e0 := ⟨_, rfl⟩
    rw [he0] at hf
    have HR : Hid (leaveLn l i = (e0, [])) := Lib.hid (changeLn_no he0 hf)
    rw [HR.out]
    have HFI := Lib.hid he0
    have t0 : (e0 != 0) = true := by simpa using hf
    clear hf he0 HR
    have BB := Lib.hid (Below.refl w.heap.size w)
    go_enter Try.func12, Try.ntmps12
    go_wp2_with fail
    refine (rfind_tn A n c l _ _ HX.out).mono ?_
    rw [HFI.out]
    rintro e U1 ⟨rfl, b1⟩
    have BB := Lib.hid b1
    clear b1
    go_wp2
    exact bodyPost_ret (results_tmp2 rfl _ _ _) rfl (by exact listTn_no e0 BB.out)

set_option maxHeartbeats 4000000 in
theorem rcount_tn (A : Option Addr) (n c : Nat) (l : List Tn) (i u : Int) (w : World) (hx : Tns w A n c l) (hn : n ≤ 1000) :
    Calls Try.prog 14 #[.slice A n c, .int .i64 i, .int .i64 u] w (ListTn (countLn l i u) w) := by
  have HX := Lib.hid hx
  have LX := Lib.hid hx.1
  have hnc := hx.2.1
  clear hx
  by_cases hf : findLn l i = 0
  · obtain ⟨ho, k, rfl, hkl⟩ := findLn_ok hf
    have hkn : k < n := by rw [← LX.out]; exact hkl
    obtain ⟨⟨wt, qu, li, tg, rn⟩, hz⟩ : ∃ x, tth l k = x := ⟨_, rfl⟩
    have HZ := Lib.hid hz
    have hok := ho.2 k hkl
    rw [hz] at hok
    obtain ⟨x1, x2, x3, x4, x5⟩ := id hok
    dsimp only at x1 x2 x3 x4 x5
    have HFI := Lib.hid hf
    clear hz ho hkl
    by_cases h0 : u < 0
    · have HR : Hid (countLn l (k : Int) u = (1, [])) := Lib.hid (changeLn_err hf (countTn_1 h0) (by decide))
      rw [HR.out]
      have t0 : decide (u < 0) = true := decide_eq_true h0
      clear hf h0 HR hok x1 x2 x3 x4 x5
      have BB := Lib.hid (Below.refl w.heap.size w)
      go_enter Try.func14, Try.ntmps14
      go_wp2_with fail
      refine (rfind_tn A n c l _ _ HX.out).mono ?_
      rw [HFI.out]
      rintro e U1 ⟨rfl, b1⟩
      have BB := Lib.hid b1
      clear b1
      go_wp2
      exact bodyPost_ret (results_tmp2 rfl _ _ _) rfl (by exact listTn_no 1 BB.out)
    · by_cases h1 : 1099511627776 - rn < u
      · have HR : Hid (countLn l (k : Int) u = (4, [])) := Lib.hid (changeLn_err (y := ⟨wt, qu, li, tg, rn⟩) hf (by rw [HZ.out]; exact countTn_4 (x := ⟨wt, qu, li, tg, rn⟩) h0 (by show ¬ u ≤ 1099511627776 - rn; omega)) (by decide))
        rw [HR.out]
        have t0 : decide (u < 0) = false := decide_eq_false h0
        have t1 : decide (1099511627776 - rn < u) = true := decide_eq_true h1
        have hw : IntKind.i64.wrap (1099511627776 - rn) = 1099511627776 - rn := by rw [IntKind.wrap_i64]; omega
        clear hf h0 h1 HR hok x1 x2 x3 x4 x5
        have BB := Lib.hid (Below.refl w.heap.size w)
        go_enter Try.func14, Try.ntmps14
        go_wp2_with fail
        refine (rfind_tn A n c l _ _ HX.out).mono ?_
        rw [HFI.out]
        rintro e U1 ⟨rfl, b1⟩
        have BB := Lib.hid b1
        clear b1
        go_upto_region 6 with fail
        obtain ⟨bL, oL, rfl, hbL, c0, c1, c2, c3, c4⟩ := (HX.out.below BB.out).at_ hkn
        rw [HZ.out] at c0 c1 c2 c3 c4
        dsimp only at c0 c1 c2 c3 c4
        have kn := Bk.new U1 35 #[.int .i64 wt, .int .i64 qu, .int .i64 li, .int .i64 tg, .int .i64 rn]
        have ba := (Below.refl U1.heap.size U1).alloc (Nat.le_refl _) (.cells #[.int .i64 wt, .int .i64 qu, .int .i64 li, .int .i64 tg, .int .i64 rn] 35)
        have hgb := BB.out.size
        replace BB := Lib.hid (below3 BB.out ba)
        obtain ⟨gx, hg⟩ : ∃ g, U1.heap.size = g := ⟨_, rfl⟩
        obtain ⟨V1, hW⟩ : ∃ W, U1.alloc (.cells #[.int .i64 wt, .int .i64 qu, .int .i64 li, .int .i64 tg, .int .i64 rn] 35) = W := ⟨_, rfl⟩
        have Kx := Lib.hid kn
        rw [hW] at BB Kx
        rw [hg] at Kx hgb
        have HGx := Lib.hid hg
        have HWx := Lib.hid hW
        have HBx := Lib.hid hgb
        clear hW hg kn ba hgb
        go_upto_region 7 with fail
        rw [HWx.out]
        try rw [HGx.out]
        clear HWx HGx
        clear c0 c1 c2 c3 c4 hbL
        obtain ⟨qx_0, qx_1, qx_2, qx_3, qx_4⟩ := Kx.out.c5
        have lx := Kx.out.lt
        go_wp2
        exact bodyPost_ret (results_tmp2 rfl _ _ _) rfl (by exact listTn_no 4 BB.out)
      · have HR : Hid (countLn l (k : Int) u = (0, l.set k ⟨wt, qu, li, tg, rn + u⟩)) := Lib.hid (changeLn_ok hf (by rw [HZ.out]; exact countTn_0 (x := ⟨wt, qu, li, tg, rn⟩) h0 (by show u ≤ 1099511627776 - rn; omega)))
        rw [HR.out]
        obtain ⟨p, hp⟩ : ∃ p, l.set k ⟨wt, qu, li, tg, rn + u⟩ = p := ⟨_, rfl⟩
        rw [hp]
        have HP := Lib.hid hp
        clear hp
        have t0 : decide (u < 0) = false := decide_eq_false h0
        have t1 : decide (1099511627776 - rn < u) = false := decide_eq_false h1
        have HT : Hid (okTn ⟨wt, qu, li, tg, rn + u⟩) := Lib.hid ⟨x1, x2, x3, x4, (by show 0 ≤ rn + u ∧ rn + u ≤ 1099511627776; omega)⟩
        have hw : IntKind.i64.wrap (1099511627776 - rn) = 1099511627776 - rn := by rw [IntKind.wrap_i64]; omega
        have hw2 : IntKind.i64.wrap (rn + u) = rn + u := by rw [IntKind.wrap_i64]; omega
        clear hf h0 h1 HR hok x1 x2 x3 x4 x5
        have BB := Lib.hid (Below.refl w.heap.size w)
        go_enter Try.func14, Try.ntmps14
        go_wp2_with fail
        refine (rfind_tn A n c l _ _ HX.out).mono ?_
        rw [HFI.out]
        rintro e U1 ⟨rfl, b1⟩
        have BB := Lib.hid b1
        clear b1
        go_upto_region 6 with fail
        obtain ⟨bL, oL, rfl, hbL, c0, c1, c2, c3, c4⟩ := (HX.out.below BB.out).at_ hkn
        rw [HZ.out] at c0 c1 c2 c3 c4
        dsimp only at c0 c1 c2 c3 c4
        have kn := Bk.new U1 35 #[.int .i64 wt, .int .i64 qu, .int .i64 li, .int .i64 tg, .int .i64 rn]
        have ba := (Below.refl U1.heap.size U1).alloc (Nat.le_refl _) (.cells #[.int .i64 wt, .int .i64 qu, .int .i64 li, .int .i64 tg, .int .i64 rn] 35)
        have hgb := BB.out.size
        replace BB := Lib.hid (below3 BB.out ba)
        obtain ⟨gx, hg⟩ : ∃ g, U1.heap.size = g := ⟨_, rfl⟩
        obtain ⟨V1, hW⟩ : ∃ W, U1.alloc (.cells #[.int .i64 wt, .int .i64 qu, .int .i64 li, .int .i64 tg, .int .i64 rn] 35) = W := ⟨_, rfl⟩
        have Kx := Lib.hid kn
        rw [hW] at BB Kx
        rw [hg] at Kx hgb
        have HGx := Lib.hid hg
        have HWx := Lib.hid hW
        have HBx := Lib.hid hgb
        clear hW hg kn ba hgb
        go_upto_region 7 with fail
        rw [HWx.out]
        try rw [HGx.out]
        clear HWx HGx
        clear c0 c1 c2 c3 c4 hbL
        obtain ⟨qx_0, qx_1, qx_2, qx_3, qx_4⟩ := Kx.out.c5
        have lx := Kx.out.lt
        obtain ⟨fx_0, fx_1, fx_2, fx_3, fx_4⟩ := Kx.out.f5
        have x0 : Bk _ gx 35 #[.int .i64 wt, .int .i64 qu, .int .i64 li, .int .i64 tg, .int .i64 (rn + u)] := Kx.out.set_ 4 (.int .i64 (rn + u))
        have xb := BB.out.setCell (p := ⟨gx, 4, none⟩) HBx.out (.int .i64 (rn + u))
        obtain ⟨X2, hX⟩ : ∃ X, World.setCell V1 ⟨gx, 4, none⟩ (.int .i64 (rn + u)) = X := ⟨_, rfl⟩
        rw [hX] at x0 xb
        have HX := Lib.hid hX
        replace Kx := Lib.hid x0
        replace BB := Lib.hid xb
        clear hX x0 xb
        go_upto_region 10 with fail
        rw [HX.out]
        clear HX
        clear qx_0 qx_1 qx_2 qx_3 qx_4 lx fx_0 fx_1 fx_2 fx_3 fx_4
        obtain ⟨qx_0, qx_1, qx_2, qx_3, qx_4⟩ := Kx.out.c5
        have lx := Kx.out.lt
        go_wp2_with fail
        refine (with_tn _ n c l k wt qu li tg (rn + u) _ (HX.out.below BB.out) hkn hn (okTn_fit HT.out)).mono ?_
        rw [HP.out]
        rintro e U9 ⟨A9, c9, rfl, ho, b9⟩
        have OO := Lib.hid (ho.base BB.out.size)
        have B9 := Lib.hid (below3 BB.out b9)
        clear ho b9
        clear qx_0 qx_1 qx_2 qx_3 qx_4 lx
        go_wp2
        exact bodyPost_ret (results_tmp2 rfl _ _ _) rfl ⟨A9, c9, rfl, OO.out, B9.out⟩
  · obtain ⟨e0, he0⟩ : ∃ e0, findLn l i = e0 := ⟨_, rfl⟩
    rw [he0] at hf
    have HR : Hid (countLn l i u = (e0, [])) := Lib.hid (changeLn_no he0 hf)
    rw [HR.out]
    have HFI := Lib.hid he0
    have t0 : (e0 != 0) = true := by simpa using hf
    clear hf he0 HR
    have BB := Lib.hid (Below.refl w.heap.size w)
    go_enter Try.func14, Try.ntmps14
    go_wp2_with fail
    refine (rfind_tn A n c l _ _ HX.out).mono ?_
    rw [HFI.out]
    rintro e U1 ⟨rfl, b1⟩
    have BB := Lib.hid b1
    clear b1
    go_wp2
    exact bodyPost_ret (results_tmp2 rfl _ _ _) rfl (by exact listTn_no e0 BB.out)

end Go.Proofs.Ytkgdfaachpogmaa

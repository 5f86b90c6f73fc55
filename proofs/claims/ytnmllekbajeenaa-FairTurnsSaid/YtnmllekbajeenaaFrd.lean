/-
  Layer 15: Charge and Refund, both sides.
-/
import Derived.Test.YtnmllekbajeenaaFrc
namespace Go.Proofs.Ytnmllekbajeenaa
open Go.RowKit

set_option maxHeartbeats 8000000 in
theorem move_charge_fr (A : Option Addr) (n c : Nat) (l : List Tn) (i u : Int) (w : World) (hx : Tns w A n c l) (hi : Fit i) (hu : Fit u) (hn : n ≤ 1000) :
    Calls Try.prog 24 #[.slice A n c, .int .i64 i, .int .i64 u, .func (.func 25) #[] #[], .int .i64 4] w (ListTn (chargeLn l i u) w) := by
  have HX := Lib.hid hx
  have LX := Lib.hid hx.1
  have hnc := hx.2.1
  have HU := Lib.hid hu
  clear hx hu
  have HI := Lib.hid hi
  clear hi
  by_cases hf : findLn l i = 0
  · obtain ⟨ho, k, rfl, hkl⟩ := findLn_ok hf
    have hkn : k < n := by rw [← LX.out]; exact hkl
    obtain ⟨⟨wt, qu, li, tg, rn⟩, hz⟩ : ∃ x, tth l k = x := ⟨_, rfl⟩
    have HZ := Lib.hid hz
    have hok := ho.2 k hkl
    rw [hz] at hok
    obtain ⟨x1, x2, x3, x4, x5⟩ := id hok
    dsimp only at x1 x2 x3 x4 x5
    have HFI := Lib.hid hf
    clear hz ho hkl
    have hf2 : findLn l k = 0 := hf
    have HTT := Lib.hid ((there_one l k).trans hf)
    clear hf
    by_cases h0 : u < 0
    · have HR : Hid (chargeLn l k u = (1, [])) := Lib.hid (changeLn_err (y := ⟨wt, qu, li, tg, rn⟩) hf2 (by rw [HZ.out]; exact moveTn_1 (x := ⟨wt, qu, li, tg, rn⟩) h0) (by decide))
      rw [HR.out]
      have HCO : Hid (costFr wt u = (0, 1)) := Lib.hid (costFr_1 (by omega))
      clear h0 hf2 x1 x2 x3 x4 x5 hok
      go_enter Try.func24, Try.ntmps24
      have KB := lay1 w #[.int .i64 (k : Int)] 3
      have HJ := Lib.hid (ints1_fr KB.1 HI.out)
      have HX1 := Lib.hid (HX.out.below KB.2)
      have BB := Lib.hid KB.2
      clear KB
      go_wp2_with fail
      refine (there_fr A _ _ c 1 1 l _ _ HX1.out HJ.out).mono ?_
      rw [HTT.out]
      rintro e U1 ⟨rfl, b1⟩
      replace BB := Lib.hid (below3 BB.out b1)
      clear b1 HJ HX1
      obtain ⟨bL, oL, rfl, hbL, c0, -, -, c3, -⟩ := (HX.out.below BB.out).at_ hkn
      rw [HZ.out] at c0 c3
      dsimp only at c0 c3
      have hAB := (HX.out.below BB.out).2.1
      clear hAB
      go_wp2_with fail
      refine (cost_fr wt u _ HU.out).mono ?_
      rw [HCO.out]
      dsimp only
      rintro e U2 ⟨rfl, b2⟩
      have c5 := (b2.cell (p := ⟨bL, oL + k * 5 + 3, none⟩) hbL).trans c3
      have hbL2 := Nat.lt_of_lt_of_le hbL b2.size
      replace BB := Lib.hid (below3 BB.out b2)
      clear b2 c0 c3 hbL
      clear c5 hbL2
      go_wp2
      exact bodyPost_ret (results_tmp2 rfl _ _ _) rfl (by exact listTn_no 1 BB.out)
    · obtain ⟨o, hoo⟩ : ∃ o, oneFr wt = o := ⟨_, rfl⟩
      have hrm := one_room (w := wt) x1
      rw [hoo] at hrm
      have HOO := Lib.hid hoo
      clear hoo
      obtain ⟨x, hxx⟩ : ∃ x, u * o = x := ⟨_, rfl⟩
      have hx0 : 0 ≤ x := by rw [← hxx]; exact cost_nonneg (by omega) (by omega)
      have HXX := Lib.hid hxx
      clear hxx hrm
      by_cases hc : x ≤ 1152921504606846976
      · by_cases hb : tg + x ≤ 1152921504606846976
        · have HRN : changeLn (moveTn plusFr 4 u) l k = (0, l.set k { (⟨wt, qu, li, tg, rn⟩ : Tn) with tg := plusFr tg (u * oneFr wt) }) := changeLn_ok hf2 (by rw [HZ.out]; exact moveTn_0 (x := ⟨wt, qu, li, tg, rn⟩) h0 (by dsimp only; rw [HOO.out, HXX.out]; unfold plusFr; omega))
          rw [HOO.out, HXX.out] at HRN
          obtain ⟨z, hz⟩ : ∃ z, plusFr tg x = z := ⟨_, rfl⟩
          rw [hz] at HRN
          dsimp only at HRN
          unfold plusFr at hz
          obtain ⟨p, hp⟩ : ∃ p, l.set k ⟨wt, qu, li, z, rn⟩ = p := ⟨_, rfl⟩
          rw [hp] at HRN
          have HR : Hid (chargeLn l k u = (0, p)) := Lib.hid HRN
          have HP := Lib.hid hp
          clear hp HRN
          rw [HR.out]
          have HCO : Hid (costFr wt u = (x, 0)) := Lib.hid (by rw [costFr_0 ⟨x1.1, x1.2, by omega⟩ (by rw [HOO.out, HXX.out]; exact hc), HOO.out, HXX.out])
          have hfx : Fit (tg + x) := by unfold Fit; omega
          have HTZ := Lib.hid (tz_fit hfx)
          have HTE := Lib.hid (te_fit hfx)
          have HFX : Hid (Fit x) := Lib.hid (by unfold Fit; omega)
          have HFT : Hid (Fit tg) := Lib.hid (by unfold Fit; omega)
          clear hfx
          replace HTZ := Lib.hid (HTZ.out.trans hz)
          have t5 : decide (z < 0) = false := decide_eq_false (by omega)
          have t6 : decide (1152921504606846976 < z) = false := decide_eq_false (by omega)
          have HFZ : Hid (Fit z) := Lib.hid (by unfold Fit; omega)
          have HPP : Hid (l.set k { tth l k with tg := z } = p) := Lib.hid (by rw [HZ.out]; exact HP.out)
          clear h0 hc hb hf2 x1 x2 x3 x4 x5 hok hx0 hz
          go_enter Try.func24, Try.ntmps24
          have KB := lay1 w #[.int .i64 (k : Int)] 3
          have HJ := Lib.hid (ints1_fr KB.1 HI.out)
          have HX1 := Lib.hid (HX.out.below KB.2)
          have BB := Lib.hid KB.2
          clear KB
          go_wp2_with fail
          refine (there_fr A _ _ c 1 1 l _ _ HX1.out HJ.out).mono ?_
          rw [HTT.out]
          rintro e U1 ⟨rfl, b1⟩
          replace BB := Lib.hid (below3 BB.out b1)
          clear b1 HJ HX1
          obtain ⟨bL, oL, rfl, hbL, c0, -, -, c3, -⟩ := (HX.out.below BB.out).at_ hkn
          rw [HZ.out] at c0 c3
          dsimp only at c0 c3
          have hAB := (HX.out.below BB.out).2.1
          clear hAB
          go_wp2_with fail
          refine (cost_fr wt u _ HU.out).mono ?_
          rw [HCO.out]
          dsimp only
          rintro e U2 ⟨rfl, b2⟩
          have c5 := (b2.cell (p := ⟨bL, oL + k * 5 + 3, none⟩) hbL).trans c3
          have hbL2 := Nat.lt_of_lt_of_le hbL b2.size
          replace BB := Lib.hid (below3 BB.out b2)
          clear b2 c0 c3 hbL
          go_wp2_with fail
          refine (add_any tg x _ HFT.out HFX.out).mono ?_
          rw [HTZ.out, HTE.out]
          rintro e U3 ⟨rfl, b3⟩
          replace BB := Lib.hid (below3 BB.out b3)
          clear b3 c5 hbL2
          go_wp2_with fail
          refine (tagged_fr _ n c l k z _ (HX.out.below BB.out) hkn hn HFZ.out).mono ?_
          rw [HPP.out]
          rintro e U9 ⟨A9, c9, rfl, o9, b9⟩
          have OO := Lib.hid (o9.base BB.out.size)
          have B9 := Lib.hid (below3 BB.out b9)
          clear o9 b9
          go_wp2
          exact bodyPost_ret (results_tmp2 rfl _ _ _) rfl ⟨A9, c9, rfl, OO.out, B9.out⟩
        · have hcb : 1152921504606846976 < tg + x := by omega
          have HR : Hid (chargeLn l k u = (4, [])) := Lib.hid (changeLn_err (y := ⟨wt, qu, li, tg, rn⟩) hf2 (by rw [HZ.out]; exact moveTn_r (x := ⟨wt, qu, li, tg, rn⟩) h0 (by dsimp only; rw [HOO.out, HXX.out]; unfold plusFr; omega)) (by decide))
          rw [HR.out]
          have HCO : Hid (costFr wt u = (x, 0)) := Lib.hid (by rw [costFr_0 ⟨x1.1, x1.2, by omega⟩ (by rw [HOO.out, HXX.out]; exact hc), HOO.out, HXX.out])
          have hfx : Fit (tg + x) := by unfold Fit; omega
          have HTZ := Lib.hid (tz_fit hfx)
          have HTE := Lib.hid (te_fit hfx)
          have HFX : Hid (Fit x) := Lib.hid (by unfold Fit; omega)
          have HFT : Hid (Fit tg) := Lib.hid (by unfold Fit; omega)
          clear hfx
          obtain ⟨z, hz⟩ : ∃ z, tg + x = z := ⟨_, rfl⟩
          replace HTZ := Lib.hid (HTZ.out.trans hz)
          have t5 : decide (z < 0) = false := decide_eq_false (by omega)
          have t6 : decide (1152921504606846976 < z) = true := decide_eq_true (by omega)
          have HZZ := Lib.hid hz
          clear h0 hc hb hcb hf2 x1 x2 x3 x4 x5 hok hx0 hz
          go_enter Try.func24, Try.ntmps24
          have KB := lay1 w #[.int .i64 (k : Int)] 3
          have HJ := Lib.hid (ints1_fr KB.1 HI.out)
          have HX1 := Lib.hid (HX.out.below KB.2)
          have BB := Lib.hid KB.2
          clear KB
          go_wp2_with fail
          refine (there_fr A _ _ c 1 1 l _ _ HX1.out HJ.out).mono ?_
          rw [HTT.out]
          rintro e U1 ⟨rfl, b1⟩
          replace BB := Lib.hid (below3 BB.out b1)
          clear b1 HJ HX1
          obtain ⟨bL, oL, rfl, hbL, c0, -, -, c3, -⟩ := (HX.out.below BB.out).at_ hkn
          rw [HZ.out] at c0 c3
          dsimp only at c0 c3
          have hAB := (HX.out.below BB.out).2.1
          clear hAB
          go_wp2_with fail
          refine (cost_fr wt u _ HU.out).mono ?_
          rw [HCO.out]
          dsimp only
          rintro e U2 ⟨rfl, b2⟩
          have c5 := (b2.cell (p := ⟨bL, oL + k * 5 + 3, none⟩) hbL).trans c3
          have hbL2 := Nat.lt_of_lt_of_le hbL b2.size
          replace BB := Lib.hid (below3 BB.out b2)
          clear b2 c0 c3 hbL
          go_wp2_with fail
          refine (add_any tg x _ HFT.out HFX.out).mono ?_
          rw [HTZ.out, HTE.out]
          rintro e U3 ⟨rfl, b3⟩
          replace BB := Lib.hid (below3 BB.out b3)
          clear b3 c5 hbL2
          go_wp2
          exact bodyPost_ret (results_tmp2 rfl _ _ _) rfl (by exact listTn_no 4 BB.out)
      · have HR : Hid (chargeLn l k u = (4, [])) := Lib.hid (changeLn_err (y := ⟨wt, qu, li, tg, rn⟩) hf2 (by rw [HZ.out]; exact moveTn_r (x := ⟨wt, qu, li, tg, rn⟩) h0 (by dsimp only; rw [HOO.out, HXX.out]; exact fun q => hc q.1)) (by decide))
        rw [HR.out]
        have HCO : Hid (costFr wt u = (0, 4)) := Lib.hid (costFr_4 ⟨x1.1, x1.2, by omega⟩ (by rw [HOO.out, HXX.out]; exact hc))
        clear h0 hc hf2 x1 x2 x3 x4 x5 hok hx0
        go_enter Try.func24, Try.ntmps24
        have KB := lay1 w #[.int .i64 (k : Int)] 3
        have HJ := Lib.hid (ints1_fr KB.1 HI.out)
        have HX1 := Lib.hid (HX.out.below KB.2)
        have BB := Lib.hid KB.2
        clear KB
        go_wp2_with fail
        refine (there_fr A _ _ c 1 1 l _ _ HX1.out HJ.out).mono ?_
        rw [HTT.out]
        rintro e U1 ⟨rfl, b1⟩
        replace BB := Lib.hid (below3 BB.out b1)
        clear b1 HJ HX1
        obtain ⟨bL, oL, rfl, hbL, c0, -, -, c3, -⟩ := (HX.out.below BB.out).at_ hkn
        rw [HZ.out] at c0 c3
        dsimp only at c0 c3
        have hAB := (HX.out.below BB.out).2.1
        clear hAB
        go_wp2_with fail
        refine (cost_fr wt u _ HU.out).mono ?_
        rw [HCO.out]
        dsimp only
        rintro e U2 ⟨rfl, b2⟩
        have c5 := (b2.cell (p := ⟨bL, oL + k * 5 + 3, none⟩) hbL).trans c3
        have hbL2 := Nat.lt_of_lt_of_le hbL b2.size
        replace BB := Lib.hid (below3 BB.out b2)
        clear b2 c0 c3 hbL
        clear c5 hbL2
        go_wp2
        exact bodyPost_ret (results_tmp2 rfl _ _ _) rfl (by exact listTn_no 4 BB.out)
  · obtain ⟨e0, he0⟩ : ∃ e0, findLn l i = e0 := ⟨_, rfl⟩
    rw [he0] at hf
    have HR : Hid (chargeLn l i u = (e0, [])) := Lib.hid (changeLn_no he0 hf)
    rw [HR.out]
    have HTT := Lib.hid ((there_one l i).trans he0)
    have t0 : (e0 != 0) = true := by simpa using hf
    clear hf he0 HR
    go_enter Try.func24, Try.ntmps24
    have KB := lay1 w #[.int .i64 i] 3
    have HJ := Lib.hid (ints1_fr KB.1 HI.out)
    have HX1 := Lib.hid (HX.out.below KB.2)
    have BB := Lib.hid KB.2
    clear KB
    go_wp2_with fail
    refine (there_fr A _ _ c 1 1 l _ _ HX1.out HJ.out).mono ?_
    rw [HTT.out]
    rintro e U1 ⟨rfl, b1⟩
    replace BB := Lib.hid (below3 BB.out b1)
    clear b1 HJ HX1
    go_wp2
    exact bodyPost_ret (results_tmp2 rfl _ _ _) rfl (by exact listTn_no e0 BB.out)

set_option maxHeartbeats 2000000 in
theorem charge_fr (A : Option Addr) (n c : Nat) (l : List Tn) (i u : Int) (w : World) (hx : Tns w A n c l) (hi : Fit i) (hu : Fit u) (hn : n ≤ 1000) :
    Calls Try.prog 9 #[.slice A n c, .int .i64 i, .int .i64 u] w (ListTn (chargeLn l i u) w) := by
  have HS := Lib.hid (move_charge_fr A n c l i u w hx hi hu hn)
  clear hx hi hu hn
  obtain ⟨⟨er, p⟩, hr⟩ : ∃ q, chargeLn l i u = q := ⟨_, rfl⟩
  rw [hr] at HS ⊢
  clear hr
  go_enter Try.func9, Try.ntmps9
  go_wp2_with fail
  refine HS.out.mono ?_
  rintro e w2 ⟨A2, c2, rfl, o2, b2⟩
  have O2 := Lib.hid o2
  have B2 := Lib.hid b2
  clear o2 b2
  go_wp2
  exact bodyPost_ret (results_tmp2 rfl _ _ _) rfl ⟨A2, c2, rfl, O2.out, B2.out⟩

set_option maxHeartbeats 8000000 in
theorem rcharge_fr (A : Option Addr) (n c : Nat) (l : List Tn) (i u : Int) (w : World) (hx : Tns w A n c l) (hu : Fit u) (hn : n ≤ 1000) :
    Calls Try.prog 10 #[.slice A n c, .int .i64 i, .int .i64 u] w (ListTn (chargeLn l i u) w) := by
  have HX := Lib.hid hx
  have LX := Lib.hid hx.1
  have hnc := hx.2.1
  have HU := Lib.hid hu
  clear hx hu
  by_cases hf : findLn l i = 0
  · obtain ⟨ho, k, rfl, hkl⟩ := findLn_ok hf
    have hkn : k < n := by rw [← LX.out]; exact hkl
    obtain ⟨⟨wt, qu, li, tg, rn⟩, hz⟩ : ∃ x, tth l k = x := ⟨_, rfl⟩
    have HZ := Lib.hid hz
    have hok := ho.2 k hkl
    rw [hz] at hok
    obtain ⟨x1, x2, x3, x4, x5⟩ := id hok
    dsimp only at x1 x2 x3 x4 x5
    have HFI := Lib.hid hf
    clear hz ho hkl
    have hf2 : findLn l k = 0 := hf
    clear hf
    by_cases h0 : u < 0
    · have HR : Hid (chargeLn l k u = (1, [])) := Lib.hid (changeLn_err (y := ⟨wt, qu, li, tg, rn⟩) hf2 (by rw [HZ.out]; exact moveTn_1 (x := ⟨wt, qu, li, tg, rn⟩) h0) (by decide))
      rw [HR.out]
      have HCO : Hid (costFr wt u = (0, 1)) := Lib.hid (costFr_1 (by omega))
      clear hf2 x1 x2 x3 x4 x5 hok h0 HR
      have BB := Lib.hid (Below.refl w.heap.size w)
      go_enter Try.func10, Try.ntmps10
      go_wp2_with fail
      refine (rfind_tn A n c l _ _ HX.out).mono ?_
      rw [HFI.out]
      rintro e U1 ⟨rfl, b1⟩
      have BB := Lib.hid b1
      clear b1
      obtain ⟨bL, oL, rfl, hbL, c0, c1, c2, c3, c4⟩ := (HX.out.below BB.out).at_ hkn
      rw [HZ.out] at c0 c1 c2 c3 c4
      dsimp only at c0 c1 c2 c3 c4
      go_upto_region 4 with fail
      have kn := Bk.new U1 36 #[.int .i64 wt, .int .i64 qu, .int .i64 li, .int .i64 tg, .int .i64 rn]
      have ba := (Below.refl U1.heap.size U1).alloc (Nat.le_refl _) (.cells #[.int .i64 wt, .int .i64 qu, .int .i64 li, .int .i64 tg, .int .i64 rn] 36)
      have hgb := BB.out.size
      replace BB := Lib.hid (below3 BB.out ba)
      obtain ⟨gx, hg⟩ : ∃ g, U1.heap.size = g := ⟨_, rfl⟩
      obtain ⟨V1, hW⟩ : ∃ W, U1.alloc (.cells #[.int .i64 wt, .int .i64 qu, .int .i64 li, .int .i64 tg, .int .i64 rn] 36) = W := ⟨_, rfl⟩
      have Kx := Lib.hid kn
      rw [hW] at BB Kx
      rw [hg] at Kx hgb
      have HGx := Lib.hid hg
      have HWx := Lib.hid hW
      have HBx := Lib.hid hgb
      clear hW hg kn ba hgb
      go_upto_region 5 with fail
      rw [HWx.out]
      try rw [HGx.out]
      clear HWx HGx
      clear c0 c1 c2 c3 c4 hbL
      obtain ⟨qx_0, qx_1, qx_2, qx_3, qx_4⟩ := Kx.out.c5
      have lx := Kx.out.lt
      go_wp2_with fail
      refine (rcost_fr wt u _ HU.out).mono ?_
      rw [HCO.out]
      rintro e U2 ⟨rfl, bU2⟩
      clear qx_0 qx_1 qx_2 qx_3 qx_4 lx
      replace BB := Lib.hid (below3 BB.out bU2)
      replace Kx := Lib.hid (Kx.out.below bU2 Kx.out.lt)
      clear bU2
      dsimp only
      obtain ⟨qx_0, qx_1, qx_2, qx_3, qx_4⟩ := Kx.out.c5
      have lx := Kx.out.lt
      go_wp2
      exact bodyPost_ret (results_tmp2 rfl _ _ _) rfl (by exact listTn_no 1 BB.out)
    · obtain ⟨o, hoo⟩ : ∃ o, oneFr wt = o := ⟨_, rfl⟩
      have hrm := one_room (w := wt) x1
      rw [hoo] at hrm
      have HOO := Lib.hid hoo
      clear hoo
      obtain ⟨x, hxx⟩ : ∃ x, u * o = x := ⟨_, rfl⟩
      have hx0 : 0 ≤ x := by rw [← hxx]; exact cost_nonneg (by omega) (by omega)
      have HXX := Lib.hid hxx
      clear hxx hrm
      by_cases hc : x ≤ 1152921504606846976
      · by_cases hb : tg + x ≤ 1152921504606846976
        · have HRN : changeLn (moveTn plusFr 4 u) l k = (0, l.set k { (⟨wt, qu, li, tg, rn⟩ : Tn) with tg := plusFr tg (u * oneFr wt) }) := changeLn_ok hf2 (by rw [HZ.out]; exact moveTn_0 (x := ⟨wt, qu, li, tg, rn⟩) h0 (by dsimp only; rw [HOO.out, HXX.out]; unfold plusFr; omega))
          rw [HOO.out, HXX.out] at HRN
          obtain ⟨z, hz⟩ : ∃ z, plusFr tg x = z := ⟨_, rfl⟩
          rw [hz] at HRN
          dsimp only at HRN
          unfold plusFr at hz
          obtain ⟨p, hp⟩ : ∃ p, l.set k ⟨wt, qu, li, z, rn⟩ = p := ⟨_, rfl⟩
          rw [hp] at HRN
          have HR : Hid (chargeLn l k u = (0, p)) := Lib.hid HRN
          have HP := Lib.hid hp
          clear hp HRN
          rw [HR.out]
          have HCO : Hid (costFr wt u = (x, 0)) := Lib.hid (by rw [costFr_0 ⟨x1.1, x1.2, by omega⟩ (by rw [HOO.out, HXX.out]; exact hc), HOO.out, HXX.out])
          have HT : Hid (okTn ⟨wt, qu, li, z, rn⟩) := Lib.hid ⟨x1, x2, x3, (by show 0 ≤ z ∧ z ≤ 1152921504606846976; omega), x5⟩
          have hw : IntKind.i64.wrap (tg + x) = z := by rw [IntKind.wrap_i64]; omega
          have t5 : decide (1152921504606846976 < z) = false := decide_eq_false (by omega)
          clear hf2 x1 x2 x3 x4 x5 hok h0 hc hb hx0 HR hz
          have BB := Lib.hid (Below.refl w.heap.size w)
          go_enter Try.func10, Try.ntmps10
          go_wp2_with fail
          refine (rfind_tn A n c l _ _ HX.out).mono ?_
          rw [HFI.out]
          rintro e U1 ⟨rfl, b1⟩
          have BB := Lib.hid b1
          clear b1
          obtain ⟨bL, oL, rfl, hbL, c0, c1, c2, c3, c4⟩ := (HX.out.below BB.out).at_ hkn
          rw [HZ.out] at c0 c1 c2 c3 c4
          dsimp only at c0 c1 c2 c3 c4
          go_upto_region 4 with fail
          have kn := Bk.new U1 36 #[.int .i64 wt, .int .i64 qu, .int .i64 li, .int .i64 tg, .int .i64 rn]
          have ba := (Below.refl U1.heap.size U1).alloc (Nat.le_refl _) (.cells #[.int .i64 wt, .int .i64 qu, .int .i64 li, .int .i64 tg, .int .i64 rn] 36)
          have hgb := BB.out.size
          replace BB := Lib.hid (below3 BB.out ba)
          obtain ⟨gx, hg⟩ : ∃ g, U1.heap.size = g := ⟨_, rfl⟩
          obtain ⟨V1, hW⟩ : ∃ W, U1.alloc (.cells #[.int .i64 wt, .int .i64 qu, .int .i64 li, .int .i64 tg, .int .i64 rn] 36) = W := ⟨_, rfl⟩
          have Kx := Lib.hid kn
          rw [hW] at BB Kx
          rw [hg] at Kx hgb
          have HGx := Lib.hid hg
          have HWx := Lib.hid hW
          have HBx := Lib.hid hgb
          clear hW hg kn ba hgb
          go_upto_region 5 with fail
          rw [HWx.out]
          try rw [HGx.out]
          clear HWx HGx
          clear c0 c1 c2 c3 c4 hbL
          obtain ⟨qx_0, qx_1, qx_2, qx_3, qx_4⟩ := Kx.out.c5
          have lx := Kx.out.lt
          go_wp2_with fail
          refine (rcost_fr wt u _ HU.out).mono ?_
          rw [HCO.out]
          rintro e U2 ⟨rfl, bU2⟩
          clear qx_0 qx_1 qx_2 qx_3 qx_4 lx
          replace BB := Lib.hid (below3 BB.out bU2)
          replace Kx := Lib.hid (Kx.out.below bU2 Kx.out.lt)
          clear bU2
          dsimp only
          obtain ⟨qx_0, qx_1, qx_2, qx_3, qx_4⟩ := Kx.out.c5
          have lx := Kx.out.lt
          obtain ⟨fx_0, fx_1, fx_2, fx_3, fx_4⟩ := Kx.out.f5
          have x0 : Bk _ gx 36 #[.int .i64 wt, .int .i64 qu, .int .i64 li, .int .i64 z, .int .i64 rn] := Kx.out.set_ 3 (.int .i64 z)
          have xb := BB.out.setCell (p := ⟨gx, 3, none⟩) HBx.out (.int .i64 z)
          obtain ⟨X3, hX⟩ : ∃ X, World.setCell U2 ⟨gx, 3, none⟩ (.int .i64 z) = X := ⟨_, rfl⟩
          rw [hX] at x0 xb
          have HX := Lib.hid hX
          replace Kx := Lib.hid x0
          replace BB := Lib.hid xb
          clear hX x0 xb
          go_upto_region 11 with fail
          rw [HX.out]
          clear HX
          clear qx_0 qx_1 qx_2 qx_3 qx_4 lx fx_0 fx_1 fx_2 fx_3 fx_4
          obtain ⟨qx_0, qx_1, qx_2, qx_3, qx_4⟩ := Kx.out.c5
          have lx := Kx.out.lt
          go_wp2_with fail
          refine (with_tn _ n c l k wt qu li z rn _ (HX.out.below BB.out) hkn hn (okTn_fit_fr HT.out)).mono ?_
          rw [HP.out]
          rintro e U9 ⟨A9, c9, rfl, ho, b9⟩
          have OO := Lib.hid (ho.base BB.out.size)
          have B9 := Lib.hid (below3 BB.out b9)
          clear ho b9
          clear qx_0 qx_1 qx_2 qx_3 qx_4 lx
          go_wp2
          exact bodyPost_ret (results_tmp2 rfl _ _ _) rfl ⟨A9, c9, rfl, OO.out, B9.out⟩
        · have hcb : 1152921504606846976 < tg + x := by omega
          have HR : Hid (chargeLn l k u = (4, [])) := Lib.hid (changeLn_err (y := ⟨wt, qu, li, tg, rn⟩) hf2 (by rw [HZ.out]; exact moveTn_r (x := ⟨wt, qu, li, tg, rn⟩) h0 (by dsimp only; rw [HOO.out, HXX.out]; unfold plusFr; omega)) (by decide))
          rw [HR.out]
          have HCO : Hid (costFr wt u = (x, 0)) := Lib.hid (by rw [costFr_0 ⟨x1.1, x1.2, by omega⟩ (by rw [HOO.out, HXX.out]; exact hc), HOO.out, HXX.out])
          have hw : IntKind.i64.wrap (tg + x) = tg + x := by rw [IntKind.wrap_i64]; omega
          have t5 : decide (1152921504606846976 < tg + x) = true := decide_eq_true hcb
          clear hf2 x1 x2 x3 x4 x5 hok h0 hc hb hcb hx0 HR
          have BB := Lib.hid (Below.refl w.heap.size w)
          go_enter Try.func10, Try.ntmps10
          go_wp2_with fail
          refine (rfind_tn A n c l _ _ HX.out).mono ?_
          rw [HFI.out]
          rintro e U1 ⟨rfl, b1⟩
          have BB := Lib.hid b1
          clear b1
          obtain ⟨bL, oL, rfl, hbL, c0, c1, c2, c3, c4⟩ := (HX.out.below BB.out).at_ hkn
          rw [HZ.out] at c0 c1 c2 c3 c4
          dsimp only at c0 c1 c2 c3 c4
          go_upto_region 4 with fail
          have kn := Bk.new U1 36 #[.int .i64 wt, .int .i64 qu, .int .i64 li, .int .i64 tg, .int .i64 rn]
          have ba := (Below.refl U1.heap.size U1).alloc (Nat.le_refl _) (.cells #[.int .i64 wt, .int .i64 qu, .int .i64 li, .int .i64 tg, .int .i64 rn] 36)
          have hgb := BB.out.size
          replace BB := Lib.hid (below3 BB.out ba)
          obtain ⟨gx, hg⟩ : ∃ g, U1.heap.size = g := ⟨_, rfl⟩
          obtain ⟨V1, hW⟩ : ∃ W, U1.alloc (.cells #[.int .i64 wt, .int .i64 qu, .int .i64 li, .int .i64 tg, .int .i64 rn] 36) = W := ⟨_, rfl⟩
          have Kx := Lib.hid kn
          rw [hW] at BB Kx
          rw [hg] at Kx hgb
          have HGx := Lib.hid hg
          have HWx := Lib.hid hW
          have HBx := Lib.hid hgb
          clear hW hg kn ba hgb
          go_upto_region 5 with fail
          rw [HWx.out]
          try rw [HGx.out]
          clear HWx HGx
          clear c0 c1 c2 c3 c4 hbL
          obtain ⟨qx_0, qx_1, qx_2, qx_3, qx_4⟩ := Kx.out.c5
          have lx := Kx.out.lt
          go_wp2_with fail
          refine (rcost_fr wt u _ HU.out).mono ?_
          rw [HCO.out]
          rintro e U2 ⟨rfl, bU2⟩
          clear qx_0 qx_1 qx_2 qx_3 qx_4 lx
          replace BB := Lib.hid (below3 BB.out bU2)
          replace Kx := Lib.hid (Kx.out.below bU2 Kx.out.lt)
          clear bU2
          dsimp only
          obtain ⟨qx_0, qx_1, qx_2, qx_3, qx_4⟩ := Kx.out.c5
          have lx := Kx.out.lt
          go_wp2
          exact bodyPost_ret (results_tmp2 rfl _ _ _) rfl (by exact listTn_no 4 BB.out)
      · have HR : Hid (chargeLn l k u = (4, [])) := Lib.hid (changeLn_err (y := ⟨wt, qu, li, tg, rn⟩) hf2 (by rw [HZ.out]; exact moveTn_r (x := ⟨wt, qu, li, tg, rn⟩) h0 (by dsimp only; rw [HOO.out, HXX.out]; exact fun q => hc q.1)) (by decide))
        rw [HR.out]
        have HCO : Hid (costFr wt u = (0, 4)) := Lib.hid (costFr_4 ⟨x1.1, x1.2, by omega⟩ (by rw [HOO.out, HXX.out]; exact hc))
        clear hf2 x1 x2 x3 x4 x5 hok h0 hc hx0 HR
        have BB := Lib.hid (Below.refl w.heap.size w)
        go_enter Try.func10, Try.ntmps10
        go_wp2_with fail
        refine (rfind_tn A n c l _ _ HX.out).mono ?_
        rw [HFI.out]
        rintro e U1 ⟨rfl, b1⟩
        have BB := Lib.hid b1
        clear b1
        obtain ⟨bL, oL, rfl, hbL, c0, c1, c2, c3, c4⟩ := (HX.out.below BB.out).at_ hkn
        rw [HZ.out] at c0 c1 c2 c3 c4
        dsimp only at c0 c1 c2 c3 c4
        go_upto_region 4 with fail
        have kn := Bk.new U1 36 #[.int .i64 wt, .int .i64 qu, .int .i64 li, .int .i64 tg, .int .i64 rn]
        have ba := (Below.refl U1.heap.size U1).alloc (Nat.le_refl _) (.cells #[.int .i64 wt, .int .i64 qu, .int .i64 li, .int .i64 tg, .int .i64 rn] 36)
        have hgb := BB.out.size
        replace BB := Lib.hid (below3 BB.out ba)
        obtain ⟨gx, hg⟩ : ∃ g, U1.heap.size = g := ⟨_, rfl⟩
        obtain ⟨V1, hW⟩ : ∃ W, U1.alloc (.cells #[.int .i64 wt, .int .i64 qu, .int .i64 li, .int .i64 tg, .int .i64 rn] 36) = W := ⟨_, rfl⟩
        have Kx := Lib.hid kn
        rw [hW] at BB Kx
        rw [hg] at Kx hgb
        have HGx := Lib.hid hg
        have HWx := Lib.hid hW
        have HBx := Lib.hid hgb
        clear hW hg kn ba hgb
        go_upto_region 5 with fail
        rw [HWx.out]
        try rw [HGx.out]
        clear HWx HGx
        clear c0 c1 c2 c3 c4 hbL
        obtain ⟨qx_0, qx_1, qx_2, qx_3, qx_4⟩ := Kx.out.c5
        have lx := Kx.out.lt
        go_wp2_with fail
        refine (rcost_fr wt u _ HU.out).mono ?_
        rw [HCO.out]
        rintro e U2 ⟨rfl, bU2⟩
        clear qx_0 qx_1 qx_2 qx_3 qx_4 lx
        replace BB := Lib.hid (below3 BB.out bU2)
        replace Kx := Lib.hid (Kx.out.below bU2 Kx.out.lt)
        clear bU2
        dsimp only
        obtain ⟨qx_0, qx_1, qx_2, qx_3, qx_4⟩ := Kx.out.c5
        have lx := Kx.out.lt
        go_wp2
        exact bodyPost_ret (results_tmp2 rfl _ _ _) rfl (by exact listTn_no 4 BB.out)
  · obtain ⟨e0, he0⟩ : ∃ e0, findLn l i = e0 := ⟨_, rfl⟩
    rw [he0] at hf
    have HR : Hid (chargeLn l i u = (e0, [])) := Lib.hid (changeLn_no he0 hf)
    rw [HR.out]
    have HFI := Lib.hid he0
    have t0 : (e0 != 0) = true := by simpa using hf
    clear hf he0 HR
    have BB := Lib.hid (Below.refl w.heap.size w)
    go_enter Try.func10, Try.ntmps10
    go_wp2_with fail
    refine (rfind_tn A n c l _ _ HX.out).mono ?_
    rw [HFI.out]
    rintro e U1 ⟨rfl, b1⟩
    have BB := Lib.hid b1
    clear b1
    go_wp2
    exact bodyPost_ret (results_tmp2 rfl _ _ _) rfl (by exact listTn_no e0 BB.out)

set_option maxHeartbeats 8000000 in
theorem move_refund_fr (A : Option Addr) (n c : Nat) (l : List Tn) (i u : Int) (w : World) (hx : Tns w A n c l) (hi : Fit i) (hu : Fit u) (hn : n ≤ 1000) :
    Calls Try.prog 24 #[.slice A n c, .int .i64 i, .int .i64 u, .func (.func 28) #[] #[], .int .i64 9] w (ListTn (refundLn l i u) w) := by
  have HX := Lib.hid hx
  have LX := Lib.hid hx.1
  have hnc := hx.2.1
  have HU := Lib.hid hu
  clear hx hu
  have HI := Lib.hid hi
  clear hi
  by_cases hf : findLn l i = 0
  · obtain ⟨ho, k, rfl, hkl⟩ := findLn_ok hf
    have hkn : k < n := by rw [← LX.out]; exact hkl
    obtain ⟨⟨wt, qu, li, tg, rn⟩, hz⟩ : ∃ x, tth l k = x := ⟨_, rfl⟩
    have HZ := Lib.hid hz
    have hok := ho.2 k hkl
    rw [hz] at hok
    obtain ⟨x1, x2, x3, x4, x5⟩ := id hok
    dsimp only at x1 x2 x3 x4 x5
    have HFI := Lib.hid hf
    clear hz ho hkl
    have hf2 : findLn l k = 0 := hf
    have HTT := Lib.hid ((there_one l k).trans hf)
    clear hf
    by_cases h0 : u < 0
    · have HR : Hid (refundLn l k u = (1, [])) := Lib.hid (changeLn_err (y := ⟨wt, qu, li, tg, rn⟩) hf2 (by rw [HZ.out]; exact moveTn_1 (x := ⟨wt, qu, li, tg, rn⟩) h0) (by decide))
      rw [HR.out]
      have HCO : Hid (costFr wt u = (0, 1)) := Lib.hid (costFr_1 (by omega))
      clear h0 hf2 x1 x2 x3 x4 x5 hok
      go_enter Try.func24, Try.ntmps24
      have KB := lay1 w #[.int .i64 (k : Int)] 3
      have HJ := Lib.hid (ints1_fr KB.1 HI.out)
      have HX1 := Lib.hid (HX.out.below KB.2)
      have BB := Lib.hid KB.2
      clear KB
      go_wp2_with fail
      refine (there_fr A _ _ c 1 1 l _ _ HX1.out HJ.out).mono ?_
      rw [HTT.out]
      rintro e U1 ⟨rfl, b1⟩
      replace BB := Lib.hid (below3 BB.out b1)
      clear b1 HJ HX1
      obtain ⟨bL, oL, rfl, hbL, c0, -, -, c3, -⟩ := (HX.out.below BB.out).at_ hkn
      rw [HZ.out] at c0 c3
      dsimp only at c0 c3
      have hAB := (HX.out.below BB.out).2.1
      clear hAB
      go_wp2_with fail
      refine (cost_fr wt u _ HU.out).mono ?_
      rw [HCO.out]
      dsimp only
      rintro e U2 ⟨rfl, b2⟩
      have c5 := (b2.cell (p := ⟨bL, oL + k * 5 + 3, none⟩) hbL).trans c3
      have hbL2 := Nat.lt_of_lt_of_le hbL b2.size
      replace BB := Lib.hid (below3 BB.out b2)
      clear b2 c0 c3 hbL
      clear c5 hbL2
      go_wp2
      exact bodyPost_ret (results_tmp2 rfl _ _ _) rfl (by exact listTn_no 1 BB.out)
    · obtain ⟨o, hoo⟩ : ∃ o, oneFr wt = o := ⟨_, rfl⟩
      have hrm := one_room (w := wt) x1
      rw [hoo] at hrm
      have HOO := Lib.hid hoo
      clear hoo
      obtain ⟨x, hxx⟩ : ∃ x, u * o = x := ⟨_, rfl⟩
      have hx0 : 0 ≤ x := by rw [← hxx]; exact cost_nonneg (by omega) (by omega)
      have HXX := Lib.hid hxx
      clear hxx hrm
      by_cases hc : x ≤ 1152921504606846976
      · by_cases hb : 0 ≤ tg - x
        · have HRN : changeLn (moveTn lessFr 9 u) l k = (0, l.set k { (⟨wt, qu, li, tg, rn⟩ : Tn) with tg := lessFr tg (u * oneFr wt) }) := changeLn_ok hf2 (by rw [HZ.out]; exact moveTn_0 (x := ⟨wt, qu, li, tg, rn⟩) h0 (by dsimp only; rw [HOO.out, HXX.out]; unfold lessFr; omega))
          rw [HOO.out, HXX.out] at HRN
          obtain ⟨z, hz⟩ : ∃ z, lessFr tg x = z := ⟨_, rfl⟩
          rw [hz] at HRN
          dsimp only at HRN
          unfold lessFr at hz
          obtain ⟨p, hp⟩ : ∃ p, l.set k ⟨wt, qu, li, z, rn⟩ = p := ⟨_, rfl⟩
          rw [hp] at HRN
          have HR : Hid (refundLn l k u = (0, p)) := Lib.hid HRN
          have HP := Lib.hid hp
          clear hp HRN
          rw [HR.out]
          have HCO : Hid (costFr wt u = (x, 0)) := Lib.hid (by rw [costFr_0 ⟨x1.1, x1.2, by omega⟩ (by rw [HOO.out, HXX.out]; exact hc), HOO.out, HXX.out])
          have hfx : Fit (tg - x) := by unfold Fit; omega
          have HTZ := Lib.hid (tz_fit hfx)
          have HTE := Lib.hid (te_fit hfx)
          have HFX : Hid (Fit x) := Lib.hid (by unfold Fit; omega)
          have HFT : Hid (Fit tg) := Lib.hid (by unfold Fit; omega)
          clear hfx
          replace HTZ := Lib.hid (HTZ.out.trans hz)
          have t5 : decide (z < 0) = false := decide_eq_false (by omega)
          have t6 : decide (1152921504606846976 < z) = false := decide_eq_false (by omega)
          have HFZ : Hid (Fit z) := Lib.hid (by unfold Fit; omega)
          have HPP : Hid (l.set k { tth l k with tg := z } = p) := Lib.hid (by rw [HZ.out]; exact HP.out)
          clear h0 hc hb hf2 x1 x2 x3 x4 x5 hok hx0 hz
          go_enter Try.func24, Try.ntmps24
          have KB := lay1 w #[.int .i64 (k : Int)] 3
          have HJ := Lib.hid (ints1_fr KB.1 HI.out)
          have HX1 := Lib.hid (HX.out.below KB.2)
          have BB := Lib.hid KB.2
          clear KB
          go_wp2_with fail
          refine (there_fr A _ _ c 1 1 l _ _ HX1.out HJ.out).mono ?_
          rw [HTT.out]
          rintro e U1 ⟨rfl, b1⟩
          replace BB := Lib.hid (below3 BB.out b1)
          clear b1 HJ HX1
          obtain ⟨bL, oL, rfl, hbL, c0, -, -, c3, -⟩ := (HX.out.below BB.out).at_ hkn
          rw [HZ.out] at c0 c3
          dsimp only at c0 c3
          have hAB := (HX.out.below BB.out).2.1
          clear hAB
          go_wp2_with fail
          refine (cost_fr wt u _ HU.out).mono ?_
          rw [HCO.out]
          dsimp only
          rintro e U2 ⟨rfl, b2⟩
          have c5 := (b2.cell (p := ⟨bL, oL + k * 5 + 3, none⟩) hbL).trans c3
          have hbL2 := Nat.lt_of_lt_of_le hbL b2.size
          replace BB := Lib.hid (below3 BB.out b2)
          clear b2 c0 c3 hbL
          go_wp2_with fail
          refine (sub_any tg x _ HFT.out HFX.out).mono ?_
          rw [HTZ.out, HTE.out]
          rintro e U3 ⟨rfl, b3⟩
          replace BB := Lib.hid (below3 BB.out b3)
          clear b3 c5 hbL2
          go_wp2_with fail
          refine (tagged_fr _ n c l k z _ (HX.out.below BB.out) hkn hn HFZ.out).mono ?_
          rw [HPP.out]
          rintro e U9 ⟨A9, c9, rfl, o9, b9⟩
          have OO := Lib.hid (o9.base BB.out.size)
          have B9 := Lib.hid (below3 BB.out b9)
          clear o9 b9
          go_wp2
          exact bodyPost_ret (results_tmp2 rfl _ _ _) rfl ⟨A9, c9, rfl, OO.out, B9.out⟩
        · have hcb : tg - x < 0 := by omega
          have HR : Hid (refundLn l k u = (9, [])) := Lib.hid (changeLn_err (y := ⟨wt, qu, li, tg, rn⟩) hf2 (by rw [HZ.out]; exact moveTn_r (x := ⟨wt, qu, li, tg, rn⟩) h0 (by dsimp only; rw [HOO.out, HXX.out]; unfold lessFr; omega)) (by decide))
          rw [HR.out]
          have HCO : Hid (costFr wt u = (x, 0)) := Lib.hid (by rw [costFr_0 ⟨x1.1, x1.2, by omega⟩ (by rw [HOO.out, HXX.out]; exact hc), HOO.out, HXX.out])
          have hfx : Fit (tg - x) := by unfold Fit; omega
          have HTZ := Lib.hid (tz_fit hfx)
          have HTE := Lib.hid (te_fit hfx)
          have HFX : Hid (Fit x) := Lib.hid (by unfold Fit; omega)
          have HFT : Hid (Fit tg) := Lib.hid (by unfold Fit; omega)
          clear hfx
          obtain ⟨z, hz⟩ : ∃ z, tg - x = z := ⟨_, rfl⟩
          replace HTZ := Lib.hid (HTZ.out.trans hz)
          have t5 : decide (z < 0) = true := decide_eq_true (by omega)
          have HZZ := Lib.hid hz
          clear h0 hc hb hcb hf2 x1 x2 x3 x4 x5 hok hx0 hz
          go_enter Try.func24, Try.ntmps24
          have KB := lay1 w #[.int .i64 (k : Int)] 3
          have HJ := Lib.hid (ints1_fr KB.1 HI.out)
          have HX1 := Lib.hid (HX.out.below KB.2)
          have BB := Lib.hid KB.2
          clear KB
          go_wp2_with fail
          refine (there_fr A _ _ c 1 1 l _ _ HX1.out HJ.out).mono ?_
          rw [HTT.out]
          rintro e U1 ⟨rfl, b1⟩
          replace BB := Lib.hid (below3 BB.out b1)
          clear b1 HJ HX1
          obtain ⟨bL, oL, rfl, hbL, c0, -, -, c3, -⟩ := (HX.out.below BB.out).at_ hkn
          rw [HZ.out] at c0 c3
          dsimp only at c0 c3
          have hAB := (HX.out.below BB.out).2.1
          clear hAB
          go_wp2_with fail
          refine (cost_fr wt u _ HU.out).mono ?_
          rw [HCO.out]
          dsimp only
          rintro e U2 ⟨rfl, b2⟩
          have c5 := (b2.cell (p := ⟨bL, oL + k * 5 + 3, none⟩) hbL).trans c3
          have hbL2 := Nat.lt_of_lt_of_le hbL b2.size
          replace BB := Lib.hid (below3 BB.out b2)
          clear b2 c0 c3 hbL
          go_wp2_with fail
          refine (sub_any tg x _ HFT.out HFX.out).mono ?_
          rw [HTZ.out, HTE.out]
          rintro e U3 ⟨rfl, b3⟩
          replace BB := Lib.hid (below3 BB.out b3)
          clear b3 c5 hbL2
          go_wp2
          exact bodyPost_ret (results_tmp2 rfl _ _ _) rfl (by exact listTn_no 9 BB.out)
      · have HR : Hid (refundLn l k u = (9, [])) := Lib.hid (changeLn_err (y := ⟨wt, qu, li, tg, rn⟩) hf2 (by rw [HZ.out]; exact moveTn_r (x := ⟨wt, qu, li, tg, rn⟩) h0 (by dsimp only; rw [HOO.out, HXX.out]; exact fun q => hc q.1)) (by decide))
        rw [HR.out]
        have HCO : Hid (costFr wt u = (0, 4)) := Lib.hid (costFr_4 ⟨x1.1, x1.2, by omega⟩ (by rw [HOO.out, HXX.out]; exact hc))
        clear h0 hc hf2 x1 x2 x3 x4 x5 hok hx0
        go_enter Try.func24, Try.ntmps24
        have KB := lay1 w #[.int .i64 (k : Int)] 3
        have HJ := Lib.hid (ints1_fr KB.1 HI.out)
        have HX1 := Lib.hid (HX.out.below KB.2)
        have BB := Lib.hid KB.2
        clear KB
        go_wp2_with fail
        refine (there_fr A _ _ c 1 1 l _ _ HX1.out HJ.out).mono ?_
        rw [HTT.out]
        rintro e U1 ⟨rfl, b1⟩
        replace BB := Lib.hid (below3 BB.out b1)
        clear b1 HJ HX1
        obtain ⟨bL, oL, rfl, hbL, c0, -, -, c3, -⟩ := (HX.out.below BB.out).at_ hkn
        rw [HZ.out] at c0 c3
        dsimp only at c0 c3
        have hAB := (HX.out.below BB.out).2.1
        clear hAB
        go_wp2_with fail
        refine (cost_fr wt u _ HU.out).mono ?_
        rw [HCO.out]
        dsimp only
        rintro e U2 ⟨rfl, b2⟩
        have c5 := (b2.cell (p := ⟨bL, oL + k * 5 + 3, none⟩) hbL).trans c3
        have hbL2 := Nat.lt_of_lt_of_le hbL b2.size
        replace BB := Lib.hid (below3 BB.out b2)
        clear b2 c0 c3 hbL
        clear c5 hbL2
        go_wp2
        exact bodyPost_ret (results_tmp2 rfl _ _ _) rfl (by exact listTn_no 9 BB.out)
  · obtain ⟨e0, he0⟩ : ∃ e0, findLn l i = e0 := ⟨_, rfl⟩
    rw [he0] at hf
    have HR : Hid (refundLn l i u = (e0, [])) := Lib.hid (changeLn_no he0 hf)
    rw [HR.out]
    have HTT := Lib.hid ((there_one l i).trans he0)
    have t0 : (e0 != 0) = true := by simpa using hf
    clear hf he0 HR
    go_enter Try.func24, Try.ntmps24
    have KB := lay1 w #[.int .i64 i] 3
    have HJ := Lib.hid (ints1_fr KB.1 HI.out)
    have HX1 := Lib.hid (HX.out.below KB.2)
    have BB := Lib.hid KB.2
    clear KB
    go_wp2_with fail
    refine (there_fr A _ _ c 1 1 l _ _ HX1.out HJ.out).mono ?_
    rw [HTT.out]
    rintro e U1 ⟨rfl, b1⟩
    replace BB := Lib.hid (below3 BB.out b1)
    clear b1 HJ HX1
    go_wp2
    exact bodyPost_ret (results_tmp2 rfl _ _ _) rfl (by exact listTn_no e0 BB.out)

set_option maxHeartbeats 2000000 in
theorem refund_fr (A : Option Addr) (n c : Nat) (l : List Tn) (i u : Int) (w : World) (hx : Tns w A n c l) (hi : Fit i) (hu : Fit u) (hn : n ≤ 1000) :
    Calls Try.prog 11 #[.slice A n c, .int .i64 i, .int .i64 u] w (ListTn (refundLn l i u) w) := by
  have HS := Lib.hid (move_refund_fr A n c l i u w hx hi hu hn)
  clear hx hi hu hn
  obtain ⟨⟨er, p⟩, hr⟩ : ∃ q, refundLn l i u = q := ⟨_, rfl⟩
  rw [hr] at HS ⊢
  clear hr
  go_enter Try.func11, Try.ntmps11
  go_wp2_with fail
  refine HS.out.mono ?_
  rintro e w2 ⟨A2, c2, rfl, o2, b2⟩
  have O2 := Lib.hid o2
  have B2 := Lib.hid b2
  clear o2 b2
  go_wp2
  exact bodyPost_ret (results_tmp2 rfl _ _ _) rfl ⟨A2, c2, rfl, O2.out, B2.out⟩

set_option maxHeartbeats 8000000 in
theorem rrefund_fr (A : Option Addr) (n c : Nat) (l : List Tn) (i u : Int) (w : World) (hx : Tns w A n c l) (hu : Fit u) (hn : n ≤ 1000) :
    Calls Try.prog 12 #[.slice A n c, .int .i64 i, .int .i64 u] w (ListTn (refundLn l i u) w) := by
  have HX := Lib.hid hx
  have LX := Lib.hid hx.1
  have hnc := hx.2.1
  have HU := Lib.hid hu
  clear hx hu
  by_cases hf : findLn l i = 0
  · obtain ⟨ho, k, rfl, hkl⟩ := findLn_ok hf
    have hkn : k < n := by rw [← LX.out]; exact hkl
    obtain ⟨⟨wt, qu, li, tg, rn⟩, hz⟩ : ∃ x, tth l k = x := ⟨_, rfl⟩
    have HZ := Lib.hid hz
    have hok := ho.2 k hkl
    rw [hz] at hok
    obtain ⟨x1, x2, x3, x4, x5⟩ := id hok
    dsimp only at x1 x2 x3 x4 x5
    have HFI := Lib.hid hf
    clear hz ho hkl
    have hf2 : findLn l k = 0 := hf
    clear hf
    by_cases h0 : u < 0
    · have HR : Hid (refundLn l k u = (1, [])) := Lib.hid (changeLn_err (y := ⟨wt, qu, li, tg, rn⟩) hf2 (by rw [HZ.out]; exact moveTn_1 (x := ⟨wt, qu, li, tg, rn⟩) h0) (by decide))
      rw [HR.out]
      have HCO : Hid (costFr wt u = (0, 1)) := Lib.hid (costFr_1 (by omega))
      clear hf2 x1 x2 x3 x4 x5 hok h0 HR
      have BB := Lib.hid (Below.refl w.heap.size w)
      go_enter Try.func12, Try.ntmps12
      go_wp2_with fail
      refine (rfind_tn A n c l _ _ HX.out).mono ?_
      rw [HFI.out]
      rintro e U1 ⟨rfl, b1⟩
      have BB := Lib.hid b1
      clear b1
      obtain ⟨bL, oL, rfl, hbL, c0, c1, c2, c3, c4⟩ := (HX.out.below BB.out).at_ hkn
      rw [HZ.out] at c0 c1 c2 c3 c4
      dsimp only at c0 c1 c2 c3 c4
      go_upto_region 4 with fail
      have kn := Bk.new U1 36 #[.int .i64 wt, .int .i64 qu, .int .i64 li, .int .i64 tg, .int .i64 rn]
      have ba := (Below.refl U1.heap.size U1).alloc (Nat.le_refl _) (.cells #[.int .i64 wt, .int .i64 qu, .int .i64 li, .int .i64 tg, .int .i64 rn] 36)
      have hgb := BB.out.size
      replace BB := Lib.hid (below3 BB.out ba)
      obtain ⟨gx, hg⟩ : ∃ g, U1.heap.size = g := ⟨_, rfl⟩
      obtain ⟨V1, hW⟩ : ∃ W, U1.alloc (.cells #[.int .i64 wt, .int .i64 qu, .int .i64 li, .int .i64 tg, .int .i64 rn] 36) = W := ⟨_, rfl⟩
      have Kx := Lib.hid kn
      rw [hW] at BB Kx
      rw [hg] at Kx hgb
      have HGx := Lib.hid hg
      have HWx := Lib.hid hW
      have HBx := Lib.hid hgb
      clear hW hg kn ba hgb
      go_upto_region 5 with fail
      rw [HWx.out]
      try rw [HGx.out]
      clear HWx HGx
      clear c0 c1 c2 c3 c4 hbL
      obtain ⟨qx_0, qx_1, qx_2, qx_3, qx_4⟩ := Kx.out.c5
      have lx := Kx.out.lt
      go_wp2_with fail
      refine (rcost_fr wt u _ HU.out).mono ?_
      rw [HCO.out]
      rintro e U2 ⟨rfl, bU2⟩
      clear qx_0 qx_1 qx_2 qx_3 qx_4 lx
      replace BB := Lib.hid (below3 BB.out bU2)
      replace Kx := Lib.hid (Kx.out.below bU2 Kx.out.lt)
      clear bU2
      dsimp only
      obtain ⟨qx_0, qx_1, qx_2, qx_3, qx_4⟩ := Kx.out.c5
      have lx := Kx.out.lt
      go_wp2
      exact bodyPost_ret (results_tmp2 rfl _ _ _) rfl (by exact listTn_no 1 BB.out)
    · obtain ⟨o, hoo⟩ : ∃ o, oneFr wt = o := ⟨_, rfl⟩
      have hrm := one_room (w := wt) x1
      rw [hoo] at hrm
      have HOO := Lib.hid hoo
      clear hoo
      obtain ⟨x, hxx⟩ : ∃ x, u * o = x := ⟨_, rfl⟩
      have hx0 : 0 ≤ x := by rw [← hxx]; exact cost_nonneg (by omega) (by omega)
      have HXX := Lib.hid hxx
      clear hxx hrm
      by_cases hc : x ≤ 1152921504606846976
      · by_cases hb : 0 ≤ tg - x
        · have HRN : changeLn (moveTn lessFr 9 u) l k = (0, l.set k { (⟨wt, qu, li, tg, rn⟩ : Tn) with tg := lessFr tg (u * oneFr wt) }) := changeLn_ok hf2 (by rw [HZ.out]; exact moveTn_0 (x := ⟨wt, qu, li, tg, rn⟩) h0 (by dsimp only; rw [HOO.out, HXX.out]; unfold lessFr; omega))
          rw [HOO.out, HXX.out] at HRN
          obtain ⟨z, hz⟩ : ∃ z, lessFr tg x = z := ⟨_, rfl⟩
          rw [hz] at HRN
          dsimp only at HRN
          unfold lessFr at hz
          obtain ⟨p, hp⟩ : ∃ p, l.set k ⟨wt, qu, li, z, rn⟩ = p := ⟨_, rfl⟩
          rw [hp] at HRN
          have HR : Hid (refundLn l k u = (0, p)) := Lib.hid HRN
          have HP := Lib.hid hp
          clear hp HRN
          rw [HR.out]
          have HCO : Hid (costFr wt u = (x, 0)) := Lib.hid (by rw [costFr_0 ⟨x1.1, x1.2, by omega⟩ (by rw [HOO.out, HXX.out]; exact hc), HOO.out, HXX.out])
          have HT : Hid (okTn ⟨wt, qu, li, z, rn⟩) := Lib.hid ⟨x1, x2, x3, (by show 0 ≤ z ∧ z ≤ 1152921504606846976; omega), x5⟩
          have hw : IntKind.i64.wrap (tg - x) = z := by rw [IntKind.wrap_i64]; omega
          have t5 : decide (tg < x) = false := decide_eq_false (by omega)
          clear hf2 x1 x2 x3 x4 x5 hok h0 hc hb hx0 HR hz
          have BB := Lib.hid (Below.refl w.heap.size w)
          go_enter Try.func12, Try.ntmps12
          go_wp2_with fail
          refine (rfind_tn A n c l _ _ HX.out).mono ?_
          rw [HFI.out]
          rintro e U1 ⟨rfl, b1⟩
          have BB := Lib.hid b1
          clear b1
          obtain ⟨bL, oL, rfl, hbL, c0, c1, c2, c3, c4⟩ := (HX.out.below BB.out).at_ hkn
          rw [HZ.out] at c0 c1 c2 c3 c4
          dsimp only at c0 c1 c2 c3 c4
          go_upto_region 4 with fail
          have kn := Bk.new U1 36 #[.int .i64 wt, .int .i64 qu, .int .i64 li, .int .i64 tg, .int .i64 rn]
          have ba := (Below.refl U1.heap.size U1).alloc (Nat.le_refl _) (.cells #[.int .i64 wt, .int .i64 qu, .int .i64 li, .int .i64 tg, .int .i64 rn] 36)
          have hgb := BB.out.size
          replace BB := Lib.hid (below3 BB.out ba)
          obtain ⟨gx, hg⟩ : ∃ g, U1.heap.size = g := ⟨_, rfl⟩
          obtain ⟨V1, hW⟩ : ∃ W, U1.alloc (.cells #[.int .i64 wt, .int .i64 qu, .int .i64 li, .int .i64 tg, .int .i64 rn] 36) = W := ⟨_, rfl⟩
          have Kx := Lib.hid kn
          rw [hW] at BB Kx
          rw [hg] at Kx hgb
          have HGx := Lib.hid hg
          have HWx := Lib.hid hW
          have HBx := Lib.hid hgb
          clear hW hg kn ba hgb
          go_upto_region 5 with fail
          rw [HWx.out]
          try rw [HGx.out]
          clear HWx HGx
          clear c0 c1 c2 c3 c4 hbL
          obtain ⟨qx_0, qx_1, qx_2, qx_3, qx_4⟩ := Kx.out.c5
          have lx := Kx.out.lt
          go_wp2_with fail
          refine (rcost_fr wt u _ HU.out).mono ?_
          rw [HCO.out]
          rintro e U2 ⟨rfl, bU2⟩
          clear qx_0 qx_1 qx_2 qx_3 qx_4 lx
          replace BB := Lib.hid (below3 BB.out bU2)
          replace Kx := Lib.hid (Kx.out.below bU2 Kx.out.lt)
          clear bU2
          dsimp only
          obtain ⟨qx_0, qx_1, qx_2, qx_3, qx_4⟩ := Kx.out.c5
          have lx := Kx.out.lt
          obtain ⟨fx_0, fx_1, fx_2, fx_3, fx_4⟩ := Kx.out.f5
          have x0 : Bk _ gx 36 #[.int .i64 wt, .int .i64 qu, .int .i64 li, .int .i64 z, .int .i64 rn] := Kx.out.set_ 3 (.int .i64 z)
          have xb := BB.out.setCell (p := ⟨gx, 3, none⟩) HBx.out (.int .i64 z)
          obtain ⟨X3, hX⟩ : ∃ X, World.setCell U2 ⟨gx, 3, none⟩ (.int .i64 z) = X := ⟨_, rfl⟩
          rw [hX] at x0 xb
          have HX := Lib.hid hX
          replace Kx := Lib.hid x0
          replace BB := Lib.hid xb
          clear hX x0 xb
          go_upto_region 11 with fail
          rw [HX.out]
          clear HX
          clear qx_0 qx_1 qx_2 qx_3 qx_4 lx fx_0 fx_1 fx_2 fx_3 fx_4
          obtain ⟨qx_0, qx_1, qx_2, qx_3, qx_4⟩ := Kx.out.c5
          have lx := Kx.out.lt
          go_wp2_with fail
          refine (with_tn _ n c l k wt qu li z rn _ (HX.out.below BB.out) hkn hn (okTn_fit_fr HT.out)).mono ?_
          rw [HP.out]
          rintro e U9 ⟨A9, c9, rfl, ho, b9⟩
          have OO := Lib.hid (ho.base BB.out.size)
          have B9 := Lib.hid (below3 BB.out b9)
          clear ho b9
          clear qx_0 qx_1 qx_2 qx_3 qx_4 lx
          go_wp2
          exact bodyPost_ret (results_tmp2 rfl _ _ _) rfl ⟨A9, c9, rfl, OO.out, B9.out⟩
        · have hcb : tg - x < 0 := by omega
          have HR : Hid (refundLn l k u = (9, [])) := Lib.hid (changeLn_err (y := ⟨wt, qu, li, tg, rn⟩) hf2 (by rw [HZ.out]; exact moveTn_r (x := ⟨wt, qu, li, tg, rn⟩) h0 (by dsimp only; rw [HOO.out, HXX.out]; unfold lessFr; omega)) (by decide))
          rw [HR.out]
          have HCO : Hid (costFr wt u = (x, 0)) := Lib.hid (by rw [costFr_0 ⟨x1.1, x1.2, by omega⟩ (by rw [HOO.out, HXX.out]; exact hc), HOO.out, HXX.out])
          have t5 : decide (tg < x) = true := decide_eq_true (by omega)
          clear hf2 x1 x2 x3 x4 x5 hok h0 hc hb hcb hx0 HR
          have BB := Lib.hid (Below.refl w.heap.size w)
          go_enter Try.func12, Try.ntmps12
          go_wp2_with fail
          refine (rfind_tn A n c l _ _ HX.out).mono ?_
          rw [HFI.out]
          rintro e U1 ⟨rfl, b1⟩
          have BB := Lib.hid b1
          clear b1
          obtain ⟨bL, oL, rfl, hbL, c0, c1, c2, c3, c4⟩ := (HX.out.below BB.out).at_ hkn
          rw [HZ.out] at c0 c1 c2 c3 c4
          dsimp only at c0 c1 c2 c3 c4
          go_upto_region 4 with fail
          have kn := Bk.new U1 36 #[.int .i64 wt, .int .i64 qu, .int .i64 li, .int .i64 tg, .int .i64 rn]
          have ba := (Below.refl U1.heap.size U1).alloc (Nat.le_refl _) (.cells #[.int .i64 wt, .int .i64 qu, .int .i64 li, .int .i64 tg, .int .i64 rn] 36)
          have hgb := BB.out.size
          replace BB := Lib.hid (below3 BB.out ba)
          obtain ⟨gx, hg⟩ : ∃ g, U1.heap.size = g := ⟨_, rfl⟩
          obtain ⟨V1, hW⟩ : ∃ W, U1.alloc (.cells #[.int .i64 wt, .int .i64 qu, .int .i64 li, .int .i64 tg, .int .i64 rn] 36) = W := ⟨_, rfl⟩
          have Kx := Lib.hid kn
          rw [hW] at BB Kx
          rw [hg] at Kx hgb
          have HGx := Lib.hid hg
          have HWx := Lib.hid hW
          have HBx := Lib.hid hgb
          clear hW hg kn ba hgb
          go_upto_region 5 with fail
          rw [HWx.out]
          try rw [HGx.out]
          clear HWx HGx
          clear c0 c1 c2 c3 c4 hbL
          obtain ⟨qx_0, qx_1, qx_2, qx_3, qx_4⟩ := Kx.out.c5
          have lx := Kx.out.lt
          go_wp2_with fail
          refine (rcost_fr wt u _ HU.out).mono ?_
          rw [HCO.out]
          rintro e U2 ⟨rfl, bU2⟩
          clear qx_0 qx_1 qx_2 qx_3 qx_4 lx
          replace BB := Lib.hid (below3 BB.out bU2)
          replace Kx := Lib.hid (Kx.out.below bU2 Kx.out.lt)
          clear bU2
          dsimp only
          obtain ⟨qx_0, qx_1, qx_2, qx_3, qx_4⟩ := Kx.out.c5
          have lx := Kx.out.lt
          go_wp2
          exact bodyPost_ret (results_tmp2 rfl _ _ _) rfl (by exact listTn_no 9 BB.out)
      · have HR : Hid (refundLn l k u = (9, [])) := Lib.hid (changeLn_err (y := ⟨wt, qu, li, tg, rn⟩) hf2 (by rw [HZ.out]; exact moveTn_r (x := ⟨wt, qu, li, tg, rn⟩) h0 (by dsimp only; rw [HOO.out, HXX.out]; exact fun q => hc q.1)) (by decide))
        rw [HR.out]
        have HCO : Hid (costFr wt u = (0, 4)) := Lib.hid (costFr_4 ⟨x1.1, x1.2, by omega⟩ (by rw [HOO.out, HXX.out]; exact hc))
        clear hf2 x1 x2 x3 x4 x5 hok h0 hc hx0 HR
        have BB := Lib.hid (Below.refl w.heap.size w)
        go_enter Try.func12, Try.ntmps12
        go_wp2_with fail
        refine (rfind_tn A n c l _ _ HX.out).mono ?_
        rw [HFI.out]
        rintro e U1 ⟨rfl, b1⟩
        have BB := Lib.hid b1
        clear b1
        obtain ⟨bL, oL, rfl, hbL, c0, c1, c2, c3, c4⟩ := (HX.out.below BB.out).at_ hkn
        rw [HZ.out] at c0 c1 c2 c3 c4
        dsimp only at c0 c1 c2 c3 c4
        go_upto_region 4 with fail
        have kn := Bk.new U1 36 #[.int .i64 wt, .int .i64 qu, .int .i64 li, .int .i64 tg, .int .i64 rn]
        have ba := (Below.refl U1.heap.size U1).alloc (Nat.le_refl _) (.cells #[.int .i64 wt, .int .i64 qu, .int .i64 li, .int .i64 tg, .int .i64 rn] 36)
        have hgb := BB.out.size
        replace BB := Lib.hid (below3 BB.out ba)
        obtain ⟨gx, hg⟩ : ∃ g, U1.heap.size = g := ⟨_, rfl⟩
        obtain ⟨V1, hW⟩ : ∃ W, U1.alloc (.cells #[.int .i64 wt, .int .i64 qu, .int .i64 li, .int .i64 tg, .int .i64 rn] 36) = W := ⟨_, rfl⟩
        have Kx := Lib.hid kn
        rw [hW] at BB Kx
        rw [hg] at Kx hgb
        have HGx := Lib.hid hg
        have HWx := Lib.hid hW
        have HBx := Lib.hid hgb
        clear hW hg kn ba hgb
        go_upto_region 5 with fail
        rw [HWx.out]
        try rw [HGx.out]
        clear HWx HGx
        clear c0 c1 c2 c3 c4 hbL
        obtain ⟨qx_0, qx_1, qx_2, qx_3, qx_4⟩ := Kx.out.c5
        have lx := Kx.out.lt
        go_wp2_with fail
        refine (rcost_fr wt u _ HU.out).mono ?_
        rw [HCO.out]
        rintro e U2 ⟨rfl, bU2⟩
        clear qx_0 qx_1 qx_2 qx_3 qx_4 lx
        replace BB := Lib.hid (below3 BB.out bU2)
        replace Kx := Lib.hid (Kx.out.below bU2 Kx.out.lt)
        clear bU2
        dsimp only
        obtain ⟨qx_0, qx_1, qx_2, qx_3, qx_4⟩ := Kx.out.c5
        have lx := Kx.out.lt
        go_wp2
        exact bodyPost_ret (results_tmp2 rfl _ _ _) rfl (by exact listTn_no 9 BB.out)
  · obtain ⟨e0, he0⟩ : ∃ e0, findLn l i = e0 := ⟨_, rfl⟩
    rw [he0] at hf
    have HR : Hid (refundLn l i u = (e0, [])) := Lib.hid (changeLn_no he0 hf)
    rw [HR.out]
    have HFI := Lib.hid he0
    have t0 : (e0 != 0) = true := by simpa using hf
    clear hf he0 HR
    have BB := Lib.hid (Below.refl w.heap.size w)
    go_enter Try.func12, Try.ntmps12
    go_wp2_with fail
    refine (rfind_tn A n c l _ _ HX.out).mono ?_
    rw [HFI.out]
    rintro e U1 ⟨rfl, b1⟩
    have BB := Lib.hid b1
    clear b1
    go_wp2
    exact bodyPost_ret (results_tmp2 rfl _ _ _) rfl (by exact listTn_no e0 BB.out)

end Go.Proofs.Ytnmllekbajeenaa

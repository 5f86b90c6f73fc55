/-
  Layer 15: Least and Wake, both sides.
-/
import Derived.Test.YtnmllekbajeenaaFrb
namespace Go.Proofs.Ytnmllekbajeenaa
open Go.RowKit

theorem who_nil {l : List Tn} {bs : List Bool} {k : Nat} (h : bestK l bs k < 0) : whoK bs k = [] := by
  rcases best_spec l bs k with ⟨_, h2⟩ | ⟨m, _, e, _⟩
  · refine List.eq_nil_iff_forall_not_mem.2 fun j hj => ?_
    obtain ⟨m, hm, -, ht⟩ := whoK_mem hj
    rw [h2 m hm] at ht; cases ht
  · rw [e] at h; omega
theorem who_some {l : List Tn} {bs : List Bool} {k : Nat} (h : ¬ bestK l bs k < 0) : 0 < (whoK bs k).length := by
  rcases Nat.eq_zero_or_pos (whoK bs k).length with e | e
  · exact absurd (by unfold bestK; rw [List.eq_nil_of_length_eq_zero e]; exact (by decide : (-1 : Int) < 0)) h
  · exact e

set_option maxHeartbeats 4000000 in
theorem least_fr (A B : Option Addr) (n c m d : Nat) (l : List Tn) (bs : List Bool) (w : World) (hx : Tns w A n c l) (hb : Flags w B m bs) :
    Calls Try.prog 15 #[.slice A n c, .slice B m d] w (RetB (.tuple #[.int .i64 (leastFr l bs).1, .int .i64 (leastFr l bs).2]) w) := by
  have HX := Lib.hid hx
  have HF := Lib.hid hb
  have LX := Lib.hid hx.1
  have LF := Lib.hid hb.1
  have hnc := hx.2.1
  have hmm := hb.2.1
  clear hx hb
  by_cases hf : fitFr l bs
  · have HE := Lib.hid (fitE_0 hf)
    have hmn : m = n := by rw [← LX.out, ← LF.out]; exact hf.2
    subst hmn
    have HM16 : Hid (m ≤ 1000) := Lib.hid (by have := hf.1.1.2; rw [LX.out] at this; omega)
    have HOK := Lib.hid hf
    clear hf
    by_cases hz : bestK l bs l.length < 0
    · rw [leastFr_5 HOK.out hz]
      have HW : Hid (whoK bs m = []) := Lib.hid (by have := who_nil hz; rwa [LX.out] at this)
      clear hz
      go_enter Try.func15, Try.ntmps15
      go_wp2_with fail
      refine (fit_fr A B _ c _ d l bs _ HX.out HF.out).mono ?_
      rw [HE.out]
      rintro e U1 ⟨rfl, b1⟩
      have BB := Lib.hid b1
      clear b1
      go_wp2_with fail
      refine (those_fr B m d bs _ (HF.out.below BB.out) HM16.out).mono ?_
      rintro e U2 ⟨A2, c2, rfl, o2, b2⟩
      have OJ := Lib.hid o2.ints
      replace BB := Lib.hid (below3 BB.out b2)
      clear o2 b2
      rw [HW.out] at OJ ⊢
      go_wp2
      exact bodyPost_ret (results_tmp2 rfl _ _ _) rfl (by exact ⟨rfl, BB.out⟩)
    · have hs := who_some hz
      rw [LX.out] at hs
      rw [leastFr_0 HOK.out hz]
      obtain ⟨r, hr⟩ : ∃ r, bestK l bs l.length = r := ⟨_, rfl⟩
      rw [hr]
      have HR : Hid (minOf l (whoK bs m) = r) := Lib.hid (by have := hr; rw [LX.out] at this; exact this)
      have HQ := Lib.hid (fun q (hq : q < (whoK bs m).length) => whoK_nth hq)
      obtain ⟨js, hjs⟩ : ∃ js, whoK bs m = js := ⟨_, rfl⟩
      rw [hjs] at HR HQ hs
      obtain ⟨q, hq⟩ : ∃ q, js.length = q := ⟨_, rfl⟩
      rw [hq] at hs HQ
      have HS := Lib.hid hs
      have HJS := Lib.hid hjs
      have HJQ := Lib.hid hq
      have t1 : ((q : Int) == 0) = false := by simp; omega
      clear hz hr hs hjs hq
      go_enter Try.func15, Try.ntmps15
      go_wp2_with fail
      refine (fit_fr A B _ c _ d l bs _ HX.out HF.out).mono ?_
      rw [HE.out]
      rintro e U1 ⟨rfl, b1⟩
      have BB := Lib.hid b1
      clear b1
      go_wp2_with fail
      refine (those_fr B m d bs _ (HF.out.below BB.out) HM16.out).mono ?_
      rintro e U2 ⟨A2, c2, rfl, o2, b2⟩
      have OJ := Lib.hid o2.ints
      replace BB := Lib.hid (below3 BB.out b2)
      clear o2 b2
      rw [HJS.out] at OJ ⊢
      rw [HJQ.out] at OJ ⊢
      have hq8 := OJ.out.2.1
      go_wp2_with fail
      refine (byTag_fr A m c _).mono ?_
      rintro e U3 ⟨g, rfl, kg, b3⟩
      have KG := Lib.hid kg
      replace OJ := Lib.hid (OJ.out.below b3)
      replace BB := Lib.hid (below3 BB.out b3)
      clear kg b3
      go_wp2_with fail
      refine (minFunc_fr _ A q _ m c g js l _ OJ.out (HX.out.below BB.out) KG.out HS.out (fun k hk => by obtain ⟨j, h1, h2, -⟩ := HQ.out k hk; exact ⟨j, h1, h2⟩)).mono ?_
      rw [HR.out]
      rintro e U4 ⟨rfl, b4⟩
      replace BB := Lib.hid (below3 BB.out b4)
      clear b4
      go_wp2
      exact bodyPost_ret (results_tmp2 rfl _ _ _) rfl (by exact ⟨rfl, BB.out⟩)
  · have HE := Lib.hid (fitE_1 hf)
    rw [leastFr_1 hf]
    clear hf
    go_enter Try.func15, Try.ntmps15
    go_wp2_with fail
    refine (fit_fr A B _ c _ d l bs _ HX.out HF.out).mono ?_
    rw [HE.out]
    rintro e U1 ⟨rfl, b1⟩
    have BB := Lib.hid b1
    clear b1
    go_wp2
    exact bodyPost_ret (results_tmp2 rfl _ _ _) rfl (by exact ⟨rfl, BB.out⟩)

set_option maxHeartbeats 8000000 in
theorem rleast_fr (A B : Option Addr) (n c m d : Nat) (l : List Tn) (bs : List Bool) (w : World) (hx : Tns w A n c l) (hb : Flags w B m bs) :
    Calls Try.prog 16 #[.slice A n c, .slice B m d] w (RetB (.tuple #[.int .i64 (leastFr l bs).1, .int .i64 (leastFr l bs).2]) w) := by
  have HX := Lib.hid hx
  have HF := Lib.hid hb
  have LX := Lib.hid hx.1
  have LF := Lib.hid hb.1
  have hnc := hx.2.1
  have hmm := hb.2.1
  clear hx hb
  by_cases hf : fitFr l bs
  · have HC := Lib.hid (chkLn_yes hf.1)
    have hmn : m = n := by rw [← LX.out, ← LF.out]; exact hf.2
    subst hmn
    have t1 : ((m : Int) != (m : Int)) = false := by simp
    have HM16 : Hid (m ≤ 1000) := Lib.hid (by have := hf.1.1.2; rw [LX.out] at this; omega)
    have HOK := Lib.hid hf
    clear hf
    obtain ⟨⟨z, er⟩, hg⟩ : ∃ q, leastFr l bs = q := ⟨_, rfl⟩
    rw [hg]
    have HG := Lib.hid hg
    clear hg
    go_enter Try.func16, Try.ntmps16
    go_wp2_with fail
    refine (rchk_tn A _ c l _ HX.out).mono ?_
    rw [HC.out]
    rintro e U1 ⟨rfl, b1⟩
    have BB := Lib.hid b1
    clear b1
    go_wp2
    go_loopw [6, 21] (fun t6 t wr => ∃ (k : Nat) (x : Int), k ≤ m ∧ t = .int .i64 k ∧ t6 = .int .i64 x ∧ Hid (bestK l bs k = x) ∧ Hid (Below w.heap.size w wr)) (fun _ t _ => m - (intOf t).toNat)
    case atStart => exact ⟨0, -1, Nat.zero_le _, rfl, rfl, Lib.hid rfl, BB⟩
    case round =>
      clear BB
      rename World => wr
      obtain ⟨k, x, hk, rfl, rfl, HX0, BB⟩ := hrel
      by_cases hkn : k < m
      · obtain ⟨bL, oL, rfl, hbL, c0, c1, c2, c3, c4⟩ := (HX.out.below BB.out).at_ hkn
        obtain ⟨bR, oR, rfl, hbR, d0⟩ := (HF.out.below BB.out).at_fr hkn
        obtain ⟨⟨wt, qu, li, tg, rn⟩, hz⟩ : ∃ x, tth l k = x := ⟨_, rfl⟩
        rw [hz] at c0 c1 c2 c3 c4
        dsimp only at c0 c1 c2 c3 c4
        have HZ := Lib.hid hz
        clear hz
        have kn := Bk.new wr 36 #[.int .i64 wt, .int .i64 qu, .int .i64 li, .int .i64 tg, .int .i64 rn]
        have ba := (Below.refl wr.heap.size wr).alloc (Nat.le_refl _) (.cells #[.int .i64 wt, .int .i64 qu, .int .i64 li, .int .i64 tg, .int .i64 rn] 36)
        obtain ⟨W, hW⟩ : ∃ W, wr.alloc (.cells #[.int .i64 wt, .int .i64 qu, .int .i64 li, .int .i64 tg, .int .i64 rn] 36) = W := ⟨_, rfl⟩
        obtain ⟨gx, hg⟩ : ∃ g, wr.heap.size = g := ⟨_, rfl⟩
        have d1 := (ba.cell (p := ⟨bR, oR + k, none⟩) hbR).trans d0
        have hbR2 := Nat.lt_of_lt_of_le hbR ba.size
        have B1 := Lib.hid (below3 BB.out ba)
        rw [hW] at kn B1 d1 hbR2
        rw [hg] at kn
        obtain ⟨-, -, -, q3, -⟩ := kn.c5
        have lq := kn.lt
        have HWW := Lib.hid hW
        have HG2 := Lib.hid hg
        clear kn ba hW hg d0 hbR
        go_upto_region 7 with fail
        rw [HWW.out]
        try rw [HG2.out]
        clear HWW HG2 c0 c1 c2 c3 c4 hbL
        cases hbk : bth bs k with
        | false =>
          rw [hbk] at d1
          have HNX : Hid (bestK l bs (k + 1) = x) := Lib.hid ((bestK_no hbk).trans HX0.out)
          clear hbk HX0
          go_wp2_with fail
          go_quiet (fail)
          go_wp2_with fail
          go_roundw
          case rel => exact ⟨k + 1, x, by omega, by go_num, rfl, HNX, Lib.hid (below_drewN B1.out _)⟩
          case measure => simp [intOf]; omega
        | true =>
          rw [hbk] at d1
          have HBK := Lib.hid (bestK_yes (l := l) hbk)
          rw [HX0.out] at HBK
          rcases best_cases l bs k with hxn | ⟨y, hy, hxy, -⟩
          · have e1 := HX0.out.symm.trans hxn
            subst e1
            have HNX : Hid (bestK l bs (k + 1) = (k : Int)) := Lib.hid (HBK.out.trans (if_pos (.inl (by decide))))
            clear hbk hxn HX0 HBK
            go_wp2_with fail
            go_quiet (fail)
            go_wp2_with fail
            go_roundw
            case rel => exact ⟨k + 1, (k : Int), by omega, by go_num, rfl, HNX, Lib.hid (below_drewN B1.out _)⟩
            case measure => simp [intOf]; omega
          · have e1 := HX0.out.symm.trans hxy
            subst e1
            have hyn : y < m := by omega
            obtain ⟨b2, o2, e2, hb2, -, -, -, c5, -⟩ := (HX.out.below B1.out).at_ hyn
            injection e2 with e2
            injection e2 with e3 e4
            subst e3 e4
            have hlow : (y : Int) < (m : Int) := by omega
            have t2 : decide ((y : Int) < 0) = false := decide_eq_false (by omega)
            have HBK2 : Hid (bestK l bs (k + 1) = if (y : Int) < 0 ∨ tg < (tth l y).tg then (k : Int) else (y : Int)) := Lib.hid (by have := HBK.out; rw [HZ.out] at this; exact this)
            obtain ⟨ty, hty⟩ : ∃ z, (tth l y).tg = z := ⟨_, rfl⟩
            rw [hty] at HBK2 c5
            clear hbk hxy HX0 HBK hty hlow
            by_cases hc : tg < ty
            · have HNX : Hid (bestK l bs (k + 1) = (k : Int)) := Lib.hid (HBK2.out.trans (if_pos (.inr hc)))
              replace hc : decide (tg < ty) = true := decide_eq_true hc
              clear HBK2
              go_wp2_with fail
              go_quiet (fail)
              go_wp2_with fail
              go_roundw
              case rel => exact ⟨k + 1, (k : Int), by omega, by go_num, rfl, HNX, Lib.hid (below_drewN B1.out _)⟩
              case measure => simp [intOf]; omega
            · have HNX : Hid (bestK l bs (k + 1) = (y : Int)) := Lib.hid (HBK2.out.trans (if_neg (fun e => e.elim (fun e => by omega) hc)))
              replace hc : decide (tg < ty) = false := decide_eq_false hc
              clear HBK2
              go_wp2_with fail
              go_quiet (fail)
              go_wp2_with fail
              go_roundw
              case rel => exact ⟨k + 1, (y : Int), by omega, by go_num, rfl, HNX, Lib.hid (below_drewN B1.out _)⟩
              case measure => simp [intOf]; omega
      · obtain rfl : m = k := by omega
        have hxr : bestK l bs l.length = x := by rw [LX.out]; exact HX0.out
        by_cases hn0 : x < 0
        · have hg2 := HG.out.symm.trans (leastFr_5 HOK.out (by rw [hxr]; exact hn0))
          injection hg2 with e1 e2
          subst e1 e2
          replace hn0 : decide (x < 0) = true := decide_eq_true hn0
          clear hxr
          go_wp2
          exact bodyPost_ret (results_tmp2 rfl _ _ _) rfl (by exact ⟨rfl, BB.out⟩)
        · have hg2 := HG.out.symm.trans (leastFr_0 HOK.out (by rw [hxr]; exact hn0))
          rw [hxr] at hg2
          injection hg2 with e1 e2
          subst e1 e2
          replace hn0 : decide (z < 0) = false := decide_eq_false hn0
          clear hxr
          go_wp2
          exact bodyPost_ret (results_tmp2 rfl _ _ _) rfl (by exact ⟨rfl, BB.out⟩)
  · by_cases hok : okLn l
    · have HC := Lib.hid (chkLn_yes hok)
      have t1 : ((m : Int) != (n : Int)) = true := by
        have : m ≠ n := fun q => hf ⟨hok, by rw [LX.out, LF.out]; exact q⟩
        simp; omega
      rw [leastFr_1 hf]
      clear hf hok
      go_enter Try.func16, Try.ntmps16
      go_wp2_with fail
      refine (rchk_tn A _ c l _ HX.out).mono ?_
      rw [HC.out]
      rintro e U1 ⟨rfl, b1⟩
      have BB := Lib.hid b1
      clear b1
      go_wp2
      exact bodyPost_ret (results_tmp2 rfl _ _ _) rfl (by exact ⟨rfl, BB.out⟩)
    · have HC := Lib.hid (chkLn_no hok)
      rw [leastFr_1 hf]
      clear hf hok
      go_enter Try.func16, Try.ntmps16
      go_wp2_with fail
      refine (rchk_tn A _ c l _ HX.out).mono ?_
      rw [HC.out]
      rintro e U1 ⟨rfl, b1⟩
      have BB := Lib.hid b1
      clear b1
      go_wp2
      exact bodyPost_ret (results_tmp2 rfl _ _ _) rfl (by exact ⟨rfl, BB.out⟩)

set_option maxHeartbeats 8000000 in
theorem wake_fr (A B : Option Addr) (n c m d : Nat) (l : List Tn) (i : Int) (bs : List Bool) (w : World) (hx : Tns w A n c l) (hi : Fit i) (hb : Flags w B m bs) :
    Calls Try.prog 13 #[.slice A n c, .int .i64 i, .slice B m d] w (ListTn (wakeFr l i bs) w) := by
  have HX := Lib.hid hx
  have HF := Lib.hid hb
  have LX := Lib.hid hx.1
  have LF := Lib.hid hb.1
  have hnc := hx.2.1
  have hmm := hb.2.1
  clear hx hb
  have HI := Lib.hid hi
  clear hi
  by_cases hf : fitFr l bs
  · have HE := Lib.hid (fitE_0 hf)
    have hmn : m = n := by rw [← LX.out, ← LF.out]; exact hf.2
    subst hmn
    have HM16 : Hid (m ≤ 1000) := Lib.hid (by have := hf.1.1.2; rw [LX.out] at this; omega)
    have HOK := Lib.hid hf
    clear hf
    by_cases hin : 0 ≤ i ∧ i < l.length
    · obtain ⟨k, rfl⟩ : ∃ k : Nat, i = (k : Int) := ⟨i.toNat, by omega⟩
      have hkl : k < l.length := by omega
      have hkn : k < m := by rw [← LX.out]; exact hkl
      have HTT := Lib.hid ((there_one l k).trans (findLn_0 HOK.out.1 hin))
      rw [wakeFr_0 HOK.out hkl]
      have HT := Lib.hid (HOK.out.1.2 k hkl)
      have hwr := wakeTag_room (bs := bs) HOK.out.1 HT.out
      obtain ⟨z, hz⟩ : ∃ z, wakeTag l bs (tth l k) = z := ⟨_, rfl⟩
      rw [hz] at hwr ⊢
      have HZF : Hid (Fit z) := Lib.hid (by unfold Fit; omega)
      obtain ⟨p, hp⟩ : ∃ p, l.set k { tth l k with tg := z } = p := ⟨_, rfl⟩
      rw [hp]
      have HP := Lib.hid hp
      have HZ := Lib.hid hz
      clear hin hkl hwr hz hp
      rcases best_cases l bs l.length with hb0 | ⟨y, hy, hb0, -⟩
      · have HLS := Lib.hid (leastFr_5 HOK.out (by rw [hb0]; decide))
        have hz2 : (tth l k).tg = z := by rw [← HZ.out]; exact (wakeTag_no (by rw [hb0]; decide)).symm
        have HZ2 := Lib.hid hz2
        clear hb0 hz2
        go_enter Try.func13, Try.ntmps13
        go_wp2_with fail
        refine (fit_fr A B _ c _ d l bs _ HX.out HF.out).mono ?_
        rw [HE.out]
        rintro e U1 ⟨rfl, b1⟩
        have BB := Lib.hid b1
        clear b1
        have KB := lay1 U1 #[.int .i64 (k : Int)] 3
        have HJ := Lib.hid (ints1_fr KB.1 HI.out)
        have HX1 := Lib.hid (HX.out.below (below3 BB.out KB.2))
        replace BB := Lib.hid (below3 BB.out KB.2)
        clear KB
        go_wp2_with fail
        refine (there_fr A _ _ c 1 1 l _ _ HX1.out HJ.out).mono ?_
        rw [HTT.out]
        rintro e U2 ⟨rfl, b2⟩
        replace BB := Lib.hid (below3 BB.out b2)
        clear b2 HJ HX1
        obtain ⟨bL, oL, e7, hbL, -, -, -, c3, -⟩ := (HX.out.below BB.out).at_ hkn
        subst e7
        rw [HZ2.out] at c3
        go_upto_region 8 with fail
        clear c3
        go_wp2_with fail
        refine (least_fr _ B m c m d l bs _ (HX.out.below BB.out) (HF.out.below BB.out)).mono ?_
        rw [HLS.out]
        rintro e U3 ⟨rfl, b3⟩
        dsimp only
        replace BB := Lib.hid (below3 BB.out b3)
        clear b3
        go_wp2_with fail
        refine (tagged_fr _ m c l k z _ (HX.out.below BB.out) hkn HM16.out HZF.out).mono ?_
        rw [HP.out]
        rintro e U9 ⟨A9, c9, rfl, o9, b9⟩
        have OO := Lib.hid (o9.base BB.out.size)
        have B9 := Lib.hid (below3 BB.out b9)
        clear o9 b9
        go_wp2
        exact bodyPost_ret (results_tmp2 rfl _ _ _) rfl ⟨A9, c9, rfl, OO.out, B9.out⟩
      · have HLS := Lib.hid (leastFr_0 HOK.out (by rw [hb0]; omega))
        rw [hb0] at HLS
        have hz2 : max (tth l k).tg (tth l y).tg = z := by rw [← HZ.out]; exact (wakeTag_yes hb0).symm
        have hyn : y < m := by rw [← LX.out]; exact hy
        obtain ⟨a1, ha1⟩ : ∃ q, (tth l k).tg = q := ⟨_, rfl⟩
        obtain ⟨a2, ha2⟩ : ∃ q, (tth l y).tg = q := ⟨_, rfl⟩
        rw [ha1, ha2] at hz2
        have HA1 := Lib.hid ha1
        have HA2 := Lib.hid ha2
        clear hb0 ha1 ha2 hy
        go_enter Try.func13, Try.ntmps13
        go_wp2_with fail
        refine (fit_fr A B _ c _ d l bs _ HX.out HF.out).mono ?_
        rw [HE.out]
        rintro e U1 ⟨rfl, b1⟩
        have BB := Lib.hid b1
        clear b1
        have KB := lay1 U1 #[.int .i64 (k : Int)] 3
        have HJ := Lib.hid (ints1_fr KB.1 HI.out)
        have HX1 := Lib.hid (HX.out.below (below3 BB.out KB.2))
        replace BB := Lib.hid (below3 BB.out KB.2)
        clear KB
        go_wp2_with fail
        refine (there_fr A _ _ c 1 1 l _ _ HX1.out HJ.out).mono ?_
        rw [HTT.out]
        rintro e U2 ⟨rfl, b2⟩
        replace BB := Lib.hid (below3 BB.out b2)
        clear b2 HJ HX1
        obtain ⟨bL, oL, e7, hbL, -, -, -, c3, -⟩ := (HX.out.below BB.out).at_ hkn
        subst e7
        rw [HA1.out] at c3
        go_upto_region 8 with fail
        clear c3 hbL
        go_wp2_with fail
        refine (least_fr _ B m c m d l bs _ (HX.out.below BB.out) (HF.out.below BB.out)).mono ?_
        rw [HLS.out]
        rintro e U3 ⟨rfl, b3⟩
        dsimp only
        replace BB := Lib.hid (below3 BB.out b3)
        clear b3
        obtain ⟨b2, o2, e2, hb2, -, -, -, d3, -⟩ := (HX.out.below BB.out).at_ hyn
        injection e2 with e2
        injection e2 with e3 e4
        subst e3 e4
        rw [HA2.out] at d3
        go_wp2_with fail
        refine (tagged_fr _ m c l k z _ (HX.out.below BB.out) hkn HM16.out HZF.out).mono ?_
        rw [HP.out]
        rintro e U9 ⟨A9, c9, rfl, o9, b9⟩
        have OO := Lib.hid (o9.base BB.out.size)
        have B9 := Lib.hid (below3 BB.out b9)
        clear o9 b9
        go_wp2
        exact bodyPost_ret (results_tmp2 rfl _ _ _) rfl ⟨A9, c9, rfl, OO.out, B9.out⟩
    · have HTT := Lib.hid ((there_one l i).trans (findLn_5 HOK.out.1 hin))
      rw [wakeFr_5 HOK.out hin]
      clear hin
      go_enter Try.func13, Try.ntmps13
      go_wp2_with fail
      refine (fit_fr A B _ c _ d l bs _ HX.out HF.out).mono ?_
      rw [HE.out]
      rintro e U1 ⟨rfl, b1⟩
      have BB := Lib.hid b1
      clear b1
      have KB := lay1 U1 #[.int .i64 i] 3
      have HJ := Lib.hid (ints1_fr KB.1 HI.out)
      have HX1 := Lib.hid (HX.out.below (below3 BB.out KB.2))
      replace BB := Lib.hid (below3 BB.out KB.2)
      clear KB
      go_wp2_with fail
      refine (there_fr A _ _ c 1 1 l _ _ HX1.out HJ.out).mono ?_
      rw [HTT.out]
      rintro e U2 ⟨rfl, b2⟩
      replace BB := Lib.hid (below3 BB.out b2)
      clear b2 HJ HX1
      go_wp2
      exact bodyPost_ret (results_tmp2 rfl _ _ _) rfl (by exact listTn_no 5 BB.out)
  · have HE := Lib.hid (fitE_1 hf)
    rw [wakeFr_1 hf]
    clear hf
    go_enter Try.func13, Try.ntmps13
    go_wp2_with fail
    refine (fit_fr A B _ c _ d l bs _ HX.out HF.out).mono ?_
    rw [HE.out]
    rintro e U1 ⟨rfl, b1⟩
    have BB := Lib.hid b1
    clear b1
    go_wp2
    exact bodyPost_ret (results_tmp2 rfl _ _ _) rfl (by exact listTn_no 1 BB.out)

theorem okTn_fit_fr {x : Tn} (h : okTn x) : FitTn x := by
  obtain ⟨h1, h2, h3, h4, h5⟩ := h
  unfold FitTn Fit
  omega

set_option maxHeartbeats 8000000 in
theorem rwake_fr (A B : Option Addr) (n c m d : Nat) (l : List Tn) (i : Int) (bs : List Bool) (w : World) (hx : Tns w A n c l) (hb : Flags w B m bs) :
    Calls Try.prog 14 #[.slice A n c, .int .i64 i, .slice B m d] w (ListTn (wakeFr l i bs) w) := by
  have HX := Lib.hid hx
  have HF := Lib.hid hb
  have LX := Lib.hid hx.1
  have LF := Lib.hid hb.1
  have hnc := hx.2.1
  have hmm := hb.2.1
  clear hx hb
  by_cases hf : fitFr l bs
  · have HC := Lib.hid (chkLn_yes hf.1)
    have hmn : m = n := by rw [← LX.out, ← LF.out]; exact hf.2
    subst hmn
    have t1 : ((m : Int) != (m : Int)) = false := by simp
    have HM16 : Hid (m ≤ 1000) := Lib.hid (by have := hf.1.1.2; rw [LX.out] at this; omega)
    have HOK := Lib.hid hf
    clear hf
    by_cases h0 : i < 0
    · rw [wakeFr_5 HOK.out (by rw [LX.out]; omega)]
      replace h0 : decide (i < 0) = true := decide_eq_true h0
      go_enter Try.func14, Try.ntmps14
      go_wp2_with fail
      refine (rchk_tn A _ c l _ HX.out).mono ?_
      rw [HC.out]
      rintro e U1 ⟨rfl, b1⟩
      have BB := Lib.hid b1
      clear b1
      go_wp2
      exact bodyPost_ret (results_tmp2 rfl _ _ _) rfl (by exact listTn_no 5 BB.out)
    · by_cases h1 : (m : Int) ≤ i
      · rw [wakeFr_5 HOK.out (by rw [LX.out]; omega)]
        replace h0 : decide (i < 0) = false := decide_eq_false h0
        replace h1 : decide ((m : Int) ≤ i) = true := decide_eq_true h1
        go_enter Try.func14, Try.ntmps14
        go_wp2_with fail
        refine (rchk_tn A _ c l _ HX.out).mono ?_
        rw [HC.out]
        rintro e U1 ⟨rfl, b1⟩
        have BB := Lib.hid b1
        clear b1
        go_wp2
        exact bodyPost_ret (results_tmp2 rfl _ _ _) rfl (by exact listTn_no 5 BB.out)
      · obtain ⟨k, rfl⟩ : ∃ k : Nat, i = (k : Int) := ⟨i.toNat, by omega⟩
        have hkn : k < m := by omega
        have hkl : k < l.length := by rw [LX.out]; exact hkn
        replace h0 : decide ((k : Int) < 0) = false := decide_eq_false h0
        replace h1 : decide ((m : Int) ≤ (k : Int)) = false := decide_eq_false h1
        rw [wakeFr_0 HOK.out hkl]
        have hT := HOK.out.1.2 k hkl
        have hwr := wakeTag_room (bs := bs) HOK.out.1 hT
        obtain ⟨z, hz⟩ : ∃ z, wakeTag l bs (tth l k) = z := ⟨_, rfl⟩
        rw [hz] at hwr ⊢
        obtain ⟨⟨wt, qu, li, tg, rn⟩, hx5⟩ : ∃ x, tth l k = x := ⟨_, rfl⟩
        rw [hx5] at hz hT ⊢
        dsimp only
        have HT : Hid (okTn ⟨wt, qu, li, z, rn⟩) := Lib.hid ⟨hT.1, hT.2.1, hT.2.2.1, hwr, hT.2.2.2.2⟩
        obtain ⟨p, hp⟩ : ∃ p, l.set k ⟨wt, qu, li, z, rn⟩ = p := ⟨_, rfl⟩
        rw [hp]
        have HP := Lib.hid hp
        have HZ := Lib.hid hz
        have HX5 := Lib.hid hx5
        clear hkl hwr hz hp hx5 hT
        rcases best_cases l bs l.length with hb0 | ⟨y, hy, hb0, -⟩
        · have HLS := Lib.hid (leastFr_5 HOK.out (by rw [hb0]; decide))
          have hz2 : tg = z := by rw [← HZ.out]; exact (wakeTag_no (x := ⟨wt, qu, li, tg, rn⟩) (by rw [hb0]; decide)).symm
          clear HZ
          subst hz2
          clear hb0
          go_enter Try.func14, Try.ntmps14
          go_wp2_with fail
          refine (rchk_tn A _ c l _ HX.out).mono ?_
          rw [HC.out]
          rintro e U1 ⟨rfl, b1⟩
          have BB := Lib.hid b1
          clear b1
          go_upto_region 5 with fail
          obtain ⟨bL, oL, rfl, hbL, c0, c1, c2, c3, c4⟩ := (HX.out.below BB.out).at_ hkn
          rw [HX5.out] at c0 c1 c2 c3 c4
          dsimp only at c0 c1 c2 c3 c4
          have kn := Bk.new U1 36 #[.int .i64 wt, .int .i64 qu, .int .i64 li, .int .i64 tg, .int .i64 rn]
          have ba := (Below.refl U1.heap.size U1).alloc (Nat.le_refl _) (.cells #[.int .i64 wt, .int .i64 qu, .int .i64 li, .int .i64 tg, .int .i64 rn] 36)
          have hgb := BB.out.size
          replace BB := Lib.hid (below3 BB.out ba)
          obtain ⟨gx, hg⟩ : ∃ g, U1.heap.size = g := ⟨_, rfl⟩
          obtain ⟨V1, hW⟩ : ∃ W, U1.alloc (.cells #[.int .i64 wt, .int .i64 qu, .int .i64 li, .int .i64 tg, .int .i64 rn] 36) = W := ⟨_, rfl⟩
          have Kx := Lib.hid kn
          rw [hW] at BB Kx
          rw [hg] at Kx hgb
          have HGx := Lib.hid hg
          have HWx := Lib.hid hW
          have HBx := Lib.hid hgb
          clear hW hg kn ba hgb
          go_upto_region 6 with fail
          rw [HWx.out]
          try rw [HGx.out]
          clear HWx HGx
          clear c0 c1 c2 c3 c4 hbL
          go_wp2_with fail
          refine (rleast_fr _ B m c m d l bs _ (HX.out.below BB.out) (HF.out.below BB.out)).mono ?_
          rw [HLS.out]
          rintro e U3 ⟨rfl, b3⟩
          replace BB := Lib.hid (below3 BB.out b3)
          replace Kx := Lib.hid (Kx.out.below b3 Kx.out.lt)
          clear b3
          obtain ⟨qx_0, qx_1, qx_2, qx_3, qx_4⟩ := Kx.out.c5
          have lx := Kx.out.lt
          go_wp2_with fail
          refine (with_tn _ m c l k wt qu li tg rn _ (HX.out.below BB.out) hkn HM16.out (okTn_fit_fr HT.out)).mono ?_
          rw [HP.out]
          rintro e U9 ⟨A9, c9, rfl, ho, b9⟩
          have OO := Lib.hid (ho.base BB.out.size)
          have B9 := Lib.hid (below3 BB.out b9)
          clear ho b9
          clear qx_0 qx_1 qx_2 qx_3 qx_4 lx
          go_wp2
          exact bodyPost_ret (results_tmp2 rfl _ _ _) rfl ⟨A9, c9, rfl, OO.out, B9.out⟩
        · have HLS := Lib.hid (leastFr_0 HOK.out (by rw [hb0]; omega))
          rw [hb0] at HLS
          have hz2 : max tg (tth l y).tg = z := by rw [← HZ.out]; exact (wakeTag_yes (x := ⟨wt, qu, li, tg, rn⟩) hb0).symm
          have hyn : y < m := by rw [← LX.out]; exact hy
          obtain ⟨a2, ha2⟩ : ∃ q, (tth l y).tg = q := ⟨_, rfl⟩
          rw [ha2] at hz2
          have HA2 := Lib.hid ha2
          clear hb0 ha2 hy
          go_enter Try.func14, Try.ntmps14
          go_wp2_with fail
          refine (rchk_tn A _ c l _ HX.out).mono ?_
          rw [HC.out]
          rintro e U1 ⟨rfl, b1⟩
          have BB := Lib.hid b1
          clear b1
          go_upto_region 5 with fail
          obtain ⟨bL, oL, rfl, hbL, c0, c1, c2, c3, c4⟩ := (HX.out.below BB.out).at_ hkn
          rw [HX5.out] at c0 c1 c2 c3 c4
          dsimp only at c0 c1 c2 c3 c4
          have kn := Bk.new U1 36 #[.int .i64 wt, .int .i64 qu, .int .i64 li, .int .i64 tg, .int .i64 rn]
          have ba := (Below.refl U1.heap.size U1).alloc (Nat.le_refl _) (.cells #[.int .i64 wt, .int .i64 qu, .int .i64 li, .int .i64 tg, .int .i64 rn] 36)
          have hgb := BB.out.size
          replace BB := Lib.hid (below3 BB.out ba)
          obtain ⟨gx, hg⟩ : ∃ g, U1.heap.size = g := ⟨_, rfl⟩
          obtain ⟨V1, hW⟩ : ∃ W, U1.alloc (.cells #[.int .i64 wt, .int .i64 qu, .int .i64 li, .int .i64 tg, .int .i64 rn] 36) = W := ⟨_, rfl⟩
          have Kx := Lib.hid kn
          rw [hW] at BB Kx
          rw [hg] at Kx hgb
          have HGx := Lib.hid hg
          have HWx := Lib.hid hW
          have HBx := Lib.hid hgb
          clear hW hg kn ba hgb
          go_upto_region 6 with fail
          rw [HWx.out]
          try rw [HGx.out]
          clear HWx HGx
          clear c0 c1 c2 c3 c4 hbL
          go_wp2_with fail
          refine (rleast_fr _ B m c m d l bs _ (HX.out.below BB.out) (HF.out.below BB.out)).mono ?_
          rw [HLS.out]
          rintro e U3 ⟨rfl, b3⟩
          replace BB := Lib.hid (below3 BB.out b3)
          replace Kx := Lib.hid (Kx.out.below b3 Kx.out.lt)
          clear b3
          obtain ⟨b2, o2, e2, hb2, -, -, -, d3, -⟩ := (HX.out.below BB.out).at_ hyn
          injection e2 with e2
          injection e2 with e3 e4
          subst e3 e4
          rw [HA2.out] at d3
          obtain ⟨qx_0, qx_1, qx_2, qx_3, qx_4⟩ := Kx.out.c5
          have lx := Kx.out.lt
          obtain ⟨fx_0, fx_1, fx_2, fx_3, fx_4⟩ := Kx.out.f5
          have x0 : Bk _ gx 36 #[.int .i64 wt, .int .i64 qu, .int .i64 li, .int .i64 z, .int .i64 rn] := Kx.out.set_ 3 (.int .i64 z)
          have xb := BB.out.setCell (p := ⟨gx, 3, none⟩) HBx.out (.int .i64 z)
          replace Kx := Lib.hid x0
          replace BB := Lib.hid xb
          clear x0 xb
          subst hz2
          go_upto_region 8 with fail
          go_region
          clear qx_0 qx_1 qx_2 qx_3 qx_4 lx fx_0 fx_1 fx_2 fx_3 fx_4
          replace Kx := Lib.hid Kx.out.drew
          replace BB := Lib.hid BB.out.drew
          obtain ⟨qx_0, qx_1, qx_2, qx_3, qx_4⟩ := Kx.out.c5
          have lx := Kx.out.lt
          go_wp2_with fail
          refine (with_tn _ m c l k wt qu li (max tg a2) rn _ (HX.out.below BB.out) hkn HM16.out (okTn_fit_fr HT.out)).mono ?_
          rw [HP.out]
          rintro e U9 ⟨A9, c9, rfl, ho, b9⟩
          have OO := Lib.hid (ho.base BB.out.size)
          have B9 := Lib.hid (below3 BB.out b9)
          clear ho b9
          clear qx_0 qx_1 qx_2 qx_3 qx_4 lx
          go_wp2
          exact bodyPost_ret (results_tmp2 rfl _ _ _) rfl ⟨A9, c9, rfl, OO.out, B9.out⟩
  · by_cases hok : okLn l
    · have HC := Lib.hid (chkLn_yes hok)
      have t1 : ((m : Int) != (n : Int)) = true := by
        have : m ≠ n := fun q => hf ⟨hok, by rw [LX.out, LF.out]; exact q⟩
        simp; omega
      rw [wakeFr_1 hf]
      clear hf hok
      go_enter Try.func14, Try.ntmps14
      go_wp2_with fail
      refine (rchk_tn A _ c l _ HX.out).mono ?_
      rw [HC.out]
      rintro e U1 ⟨rfl, b1⟩
      have BB := Lib.hid b1
      clear b1
      go_wp2
      exact bodyPost_ret (results_tmp2 rfl _ _ _) rfl (by exact listTn_no 1 BB.out)
    · have HC := Lib.hid (chkLn_no hok)
      rw [wakeFr_1 hf]
      clear hf hok
      go_enter Try.func14, Try.ntmps14
      go_wp2_with fail
      refine (rchk_tn A _ c l _ HX.out).mono ?_
      rw [HC.out]
      rintro e U1 ⟨rfl, b1⟩
      have BB := Lib.hid b1
      clear b1
      go_wp2
      exact bodyPost_ret (results_tmp2 rfl _ _ _) rfl (by exact listTn_no 1 BB.out)

end Go.Proofs.Ytnmllekbajeenaa

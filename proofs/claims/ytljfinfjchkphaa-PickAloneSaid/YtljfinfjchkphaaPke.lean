/-
  Layer 16: the weights of those that are busy; Lucky, the program.
-/
import Derived.Test.YtljfinfjchkphaaPkd
import Derived.Test.YtljfinfjchkphaaTnb
namespace Go.Proofs.Ytljfinfjchkphaa
open Go.RowKit

/-- The weights up to k of those that are busy. -/
def wtsU (ts : List Tn) (fs : List Bool) (k : Nat) : List Int := (List.range ts.length).map fun j => if j < k ∧ bth fs j = true then (tth ts j).wt else 0
theorem wtsU_len (ts : List Tn) (fs : List Bool) (k : Nat) : (wtsU ts fs k).length = ts.length := by simp [wtsU]
theorem wtsU_at {ts : List Tn} {fs : List Bool} {k j : Nat} (h : j < ts.length) : nth (wtsU ts fs k) j = if j < k ∧ bth fs j = true then (tth ts j).wt else 0 := by simp [wtsU, nth, List.getD, h]
theorem wtsU_0 (ts : List Tn) (fs : List Bool) : wtsU ts fs 0 = List.replicate ts.length 0 := by
  refine ext_nth (by simp [wtsU]) fun i h => ?_
  rw [wtsU_len] at h
  rw [wtsU_at h, if_neg (by omega)]
  simp [nth, List.getD, h]
theorem wtsU_all {ts : List Tn} {fs : List Bool} {k : Nat} (hk : ts.length ≤ k) : wtsU ts fs k = wtsPk ts fs := by
  refine ext_nth (by rw [wtsU_len, wtsPk_len]) fun i h => ?_
  rw [wtsU_len] at h
  rw [wtsU_at h, wtsPk_at h]
  by_cases e : bth fs i = true
  · rw [if_pos ⟨by omega, e⟩, if_pos e]
  · rw [if_neg (fun q => e q.2), if_neg e]
theorem wtsU_no {ts : List Tn} {fs : List Bool} {k : Nat} (h : bth fs k = false) : wtsU ts fs (k + 1) = wtsU ts fs k := by
  refine ext_nth (by rw [wtsU_len, wtsU_len]) fun i hi => ?_
  rw [wtsU_len] at hi
  rw [wtsU_at hi, wtsU_at hi]
  by_cases e : i = k
  · subst e
    rw [if_neg (fun q => by rw [h] at q; exact absurd q.2 (by decide)), if_neg (fun q => by rw [h] at q; exact absurd q.2 (by decide))]
  · by_cases q : i < k ∧ bth fs i = true
    · rw [if_pos q, if_pos ⟨by omega, q.2⟩]
    · rw [if_neg q, if_neg (fun r => q ⟨by omega, r.2⟩)]
theorem wtsU_yes {ts : List Tn} {fs : List Bool} {k : Nat} (h : bth fs k = true) : wtsU ts fs (k + 1) = (wtsU ts fs k).set k (tth ts k).wt := by
  refine ext_nth (by rw [List.length_set, wtsU_len, wtsU_len]) fun i hi => ?_
  rw [wtsU_len] at hi
  rw [nth_set _ _ _ _ (by rw [wtsU_len]; exact hi), wtsU_at hi, wtsU_at hi]
  by_cases e : k = i
  · subst e
    rw [if_pos ⟨by omega, h⟩, if_pos rfl]
  · rw [if_neg e]
    by_cases q : i < k ∧ bth fs i = true
    · rw [if_pos q, if_pos ⟨by omega, q.2⟩]
    · rw [if_neg q, if_neg (fun r => q ⟨by omega, r.2⟩)]

/-- Heavy's answer, of whatever dice. -/
def hvPk (bs : List Int) (N : Nat) (ws : List Int) (p : Int) : Int × List Int × Int × Int :=
  if 0 ≤ p ∧ p ≤ N then (if weightE ws = 0 then (((pick ws (drawAt bs p.toNat % ws.sum) : Nat) : Int), bs, ((min (p.toNat + 2) N : Nat) : Int), 0) else (0, [], 0, weightE ws)) else (0, [], 0, 1)
theorem luck_hv {bs : List Int} {N : Nat} {ts : List Tn} {fs : List Bool} {p : Int} (h : okLn ts ∧ fs.length = ts.length) : luckPk bs N ts fs p = hvPk bs N (wtsPk ts fs) p := by
  unfold luckPk hvPk
  by_cases q : 0 ≤ p ∧ p ≤ N
  · rw [if_pos ⟨q, h⟩, if_pos q]
  · rw [if_neg (fun r => q r.1), if_neg q]
theorem heavy_pk (A B : Option Addr) (N c m d : Nat) (p : Int) (bs ws : List Int) (w : World) (ho : Octs w A N bs) (hw : Ints w B m ws) :
    Calls Try.prog 31 #[.agg #[.slice A N c, .int .i64 p], .slice B m d] w (StealP (hvPk bs N ws p) w) := by
  unfold hvPk StealP
  by_cases q : 0 ≤ p ∧ p ≤ N
  · rw [if_pos q]
    obtain ⟨p, rfl⟩ := Int.eq_ofNat_of_zero_le q.1
    by_cases hE : weightE ws = 0
    · rw [if_pos hE]
      exact heavy_ok A B N c p m d bs ws w ho (by omega) hw hE
    · rw [if_neg hE]
      exact heavy_no A B N c m d p ws _ w q.1 q.2 hw rfl hE
  · rw [if_neg q]
    exact heavy_dice A N c p _ w ho.2.1 (by omega)
theorem rheavy_pk (A B : Option Addr) (N c m d : Nat) (p : Int) (bs ws : List Int) (w : World) (ho : Octs w A N bs) (hN : N ≤ 1000) (hw : Ints w B m ws) :
    Calls Try.prog 34 #[.agg #[.slice A N c, .int .i64 p], .slice B m d] w (StealP (hvPk bs N ws p) w) := by
  unfold hvPk StealP
  by_cases q : 0 ≤ p ∧ p ≤ N
  · rw [if_pos q]
    obtain ⟨p, rfl⟩ := Int.eq_ofNat_of_zero_le q.1
    refine (rheavy_any A B N c m d p bs ws w ho hN (by omega) hw).mono fun e w' h => ?_
    by_cases hE : weightE ws = 0
    · rw [if_pos hE]
      exact h.1 hE
    · rw [if_neg hE]
      exact h.2 hE
  · rw [if_neg q]
    exact rheavy_dice A B N c m d p w ho.2.1 (by omega)

set_option maxHeartbeats 4000000 in
theorem weights_pk (A F : Option Addr) (n c e : Nat) (ts : List Tn) (fs : List Bool) (w : World) (hx : Tns w A n c ts) (hf : Flags w F n fs) (hn : n ≤ 1000) :
    Calls Try.prog 32 #[.slice A n c, .slice F n e] w (NewI 3 (wtsPk ts fs) w) := by
  have HX := Lib.hid hx
  have HF := Lib.hid hf
  have LX := Lib.hid hx.1
  obtain ⟨i0, hi, hz0, hz1, hz2⟩ := info_parts Try.intInfo
  have HI := Lib.hid hi
  have HZ := Lib.hid hz0
  have HS := Lib.hid hz1
  have HB := Lib.hid hz2
  clear hi hz0 hz1 hz2 hx hf
  go_enter Try.func32, Try.ntmps32
  go_wp2_with (at_make; refine wpList_make_full _ rfl _ _ 25 rfl w.heap.size 3 i0 (.int .i64 0) 1 Try.underlying25 HI.out HZ.out HS.out .i64 .i64 _ _ n rfl rfl rfl rfl (by rw [HB.out]; omega) (by unfold maxLen; omega) (Nat.le_refl _) ?_; intro w3 hown hgrow; have HW := Lib.hid hown; have HG := Lib.hid hgrow; clear hown hgrow)
  have O0 : Hid (OwnI 3 w3 w.heap.size (some ⟨w.heap.size, 0, none⟩) n (wtsU ts fs 0)) := Lib.hid (by rw [wtsU_0, LX.out]; exact OwnI.zeros (by omega) HW.out)
  have B0 : Hid (Below w.heap.size w w3) := Lib.hid ((Below.refl w.heap.size w).grown HG.out (Nat.le_refl _) (by simp))
  clear HW HG HI HZ HS HB
  generalize hG : w.heap.size = G at O0 ⊢
  have HGG := Lib.hid hG
  clear hG
  go_loopw [13] (fun t wr => ∃ i : Nat, i ≤ n ∧ t = .int .i64 i ∧ Hid (OwnI 3 wr G (some ⟨G, 0, none⟩) n (wtsU ts fs i)) ∧ Hid (Below w.heap.size w wr)) (fun t _ => n - (intOf t).toNat)
  case atStart => exact ⟨0, Nat.zero_le _, rfl, O0, B0⟩
  case round =>
    rename World => wr
    obtain ⟨i, hi, rfl, OW, BW⟩ := hrel
    by_cases hin : i < n
    · obtain ⟨b, o, rfl, hbl, c0⟩ := (HF.out.below BW.out).at_pk hin
      cases hb : bth fs i with
      | false =>
        have O1 : Hid (OwnI 3 wr G (some ⟨G, 0, none⟩) n (wtsU ts fs (i + 1))) := Lib.hid (by rw [wtsU_no hb]; exact OW.out)
        rw [hb] at c0
        clear hb OW
        go_wp2
        go_roundw
        case rel => exact ⟨i + 1, by omega, by go_num, O1, BW⟩
        case measure => simp [intOf]; omega
      | true =>
        have hil : i < (wtsU ts fs i).length := by rw [wtsU_len, LX.out]; exact hin
        obtain ⟨ci, fi⟩ := OW.out.at_ hil
        have fz := (HX.out.fit hin).1
        have HY := Lib.hid (wtsU_yes (ts := ts) hb)
        obtain ⟨b2, o2, rfl, hb2, c1, -⟩ := (HX.out.below BW.out).at_ hin
        obtain ⟨z, hz⟩ : ∃ z, (tth ts i).wt = z := ⟨_, rfl⟩
        obtain ⟨old, ho⟩ : ∃ x, nth (wtsU ts fs i) i = x := ⟨_, rfl⟩
        rw [hz] at c1 fz HY
        rw [ho] at ci
        rw [hb] at c0
        have O1 : Hid (OwnI 3 (wr.setCell ⟨G, i, none⟩ (.int .i64 z)) G (some ⟨G, 0, none⟩) n (wtsU ts fs (i + 1))) := Lib.hid (by rw [HY.out]; exact OW.out.set_ i fz)
        have B1 : Hid (Below w.heap.size w (wr.setCell ⟨G, i, none⟩ (.int .i64 z))) := Lib.hid (BW.out.setCell (p := ⟨G, i, none⟩) (by rw [HGG.out]; exact Nat.le_refl _) _)
        have hGl := OW.out.lt
        clear hb hz ho OW BW hil HY fz
        go_wp2
        go_roundw
        case rel => exact ⟨i + 1, by omega, by go_num, O1, B1⟩
        case measure => simp [intOf]; omega
    · obtain rfl : n = i := by omega
      go_wp2
      go_ret
      have HQ := wtsU_all (ts := ts) (fs := fs) (k := n) (by rw [LX.out]; exact Nat.le_refl _)
      have OQ := OW.out
      rw [HQ] at OQ
      exact ⟨some ⟨G, 0, none⟩, n, (by rw [wtsPk_len, LX.out]; rfl), OQ.base (by rw [HGG.out]; exact Nat.le_refl _), BW.out⟩

set_option maxHeartbeats 4000000 in
theorem lucky_any (A B F : Option Addr) (N c n d k e : Nat) (p : Int) (bs : List Int) (ts : List Tn) (fs : List Bool) (w : World) (ho : Octs w A N bs) (hx : Tns w B n d ts) (hf : Flags w F k fs) :
    Calls Try.prog 13 #[.agg #[.slice A N c, .int .i64 p], .slice B n d, .slice F k e] w (StealP (luckPk bs N ts fs p) w) := by
  by_cases hok : okLn ts
  · by_cases hl : k = n
    · subst hl
      have hlk : luckPk bs N ts fs p = hvPk bs N (wtsPk ts fs) p := luck_hv ⟨hok, by rw [hf.1, hx.1]⟩
      obtain ⟨⟨x, rs, q, er⟩, hh⟩ : ∃ a, hvPk bs N (wtsPk ts fs) p = a := ⟨_, rfl⟩
      rw [hlk, hh]
      have HH := Lib.hid hh
      have HC := Lib.hid (chkLn_yes hok)
      have hk16 : k ≤ 16 := by have := hok.1.2; rw [hx.1] at this; exact this
      have HWL : Hid ((wtsPk ts fs).length = k) := Lib.hid (by rw [wtsPk_len, hx.1])
      obtain ⟨ws, hws⟩ : ∃ l, wtsPk ts fs = l := ⟨_, rfl⟩
      rw [hws] at HH HWL
      have HWS := Lib.hid hws
      clear hlk hh hok hws
      obtain ⟨k3, k7, b0⟩ := lies2 w #[.slice A N c, .int .i64 p] #[.slice none 0 0, .int .i64 0] 24 24
      have HO := Lib.hid (ho.below b0)
      have r0 := k3.c0
      have r1 := k3.c1
      have K3 := Lib.hid k3
      have K7 := Lib.hid k7
      have HZ := Lib.hid k7.lt
      have BB := Lib.hid b0
      have HX := Lib.hid (hx.below b0)
      have HF := Lib.hid (hf.below b0)
      have LX := Lib.hid hx.1
      have LF := Lib.hid hf.1
      clear k3 k7 b0 ho hx hf
      go_enter Try.func13, Try.ntmps13
      go_wp2_with fail
      refine (pchk_any B k d ts _ HX.out).mono ?_
      rw [HC.out]
      rintro e1 w1 ⟨rfl, b1⟩
      clear r0 r1
      replace K3 := Lib.hid (K3.out.below b1 K3.out.lt)
      replace K7 := Lib.hid (K7.out.below b1 K7.out.lt)
      replace HO := Lib.hid (HO.out.below b1)
      replace HX := Lib.hid (HX.out.below b1)
      replace HF := Lib.hid (HF.out.below b1)
      replace BB := Lib.hid (below3 BB.out b1)
      clear b1
      have hs0 : w1.drew.cell? ⟨w.heap.size, 0, none⟩ = some (.slice A N c) ∧ w1.drew.cell? ⟨w.heap.size, 1, none⟩ = some (.int .i64 p) := ⟨K3.out.drew.c0, K3.out.drew.c1⟩
      replace HO := Lib.hid (HO.out.below (Below.refl _ _).drew)
      replace HX := Lib.hid (HX.out.below (Below.refl _ _).drew)
      replace HF := Lib.hid (HF.out.below (Below.refl _ _).drew)
      replace K3 := Lib.hid K3.out.drew
      replace K7 := Lib.hid K7.out.drew
      replace BB := Lib.hid BB.out.drew
      go_upto_region 3 with fail
      refine wp_region_held (S := fun U => U.cell? ⟨w.heap.size, 0, none⟩ = some (.slice A N c) ∧ U.cell? ⟨w.heap.size, 1, none⟩ = some (.int .i64 p)) (by kernel_rfl) ?_
      change wpAnyH _ _ _ _ _ _ _ _ (World.drew _)
      generalize w1.drew = w2 at hs0 HO HX HF K3 K7 BB ⊢
      refine wpAnyH_take (i := 0) (v := .agg #[.slice A N c, .int .i64 p]) rfl (by kernel_rfl) (by kernel_rfl) (by kernel_rfl) (fun _ _ _ h => h) (.inl ⟨by rfl, fun U hU => by obtain ⟨u0, u1⟩ := hU; go_simp⟩) hs0 ?_
      refine wpAnyH_take (i := 1) (v := .slice B k d) rfl (by kernel_rfl) (by kernel_rfl) (by kernel_rfl) (fun _ _ _ h => h) (.inl ⟨by rfl, fun U hU => by obtain ⟨u0, u1⟩ := hU; go_simp⟩) hs0 ?_
      refine wpAnyH_take (i := 2) (v := .slice F k e) rfl (by kernel_rfl) (by kernel_rfl) (by kernel_rfl) (fun _ _ _ h => h) (.inl ⟨by rfl, fun U hU => by obtain ⟨u0, u1⟩ := hU; go_simp⟩) hs0 ?_
      refine wpAnyH_all (rs := [3]) (by kernel_rfl) (by simp) ?_
      intro i hi
      simp only [List.mem_cons, List.not_mem_nil, or_false] at hi
      subst hi
      unfold wpOp
      go_simp
      left
      refine (weights_pk B F k d e ts fs _ HX.out HF.out (by omega)).mono ?_
      rw [HWS.out]
      rintro e2 w3 ⟨A2, c2, he, o2, b2⟩
      rw [HWL.out] at he
      subst he
      have OV := Lib.hid (o2.intsN HWL.out)
      clear o2 hs0
      replace K3 := Lib.hid (K3.out.below b2 K3.out.lt)
      replace K7 := Lib.hid (K7.out.below b2 K7.out.lt)
      replace HO := Lib.hid (HO.out.below b2)
      replace BB := Lib.hid (below3 BB.out b2)
      clear b2
      have hs1 := And.intro K3.out.c0 K3.out.c1
      refine ⟨hs1, ?_⟩
      refine wpAnyH_all (rs := [4]) (by kernel_rfl) (by simp) ?_
      intro i hi
      simp only [List.mem_cons, List.not_mem_nil, or_false] at hi
      subst hi
      unfold wpOp
      go_simp
      left
      refine (heavy_pk A A2 N c k c2 p bs ws _ HO.out OV.out).mono ?_
      rw [HH.out]
      rintro e3 w4 ⟨A3, c3, rfl, o3, b3⟩
      have DO := Lib.hid (o3.base (show w.heap.size + 1 + 1 ≤ _ from K7.out.lt))
      clear o3 hs1 HO OV
      replace K3 := Lib.hid (K3.out.below b3 K3.out.lt)
      replace K7 := Lib.hid (K7.out.below b3 K7.out.lt)
      replace BB := Lib.hid (below3 BB.out b3)
      clear b3
      have hs2 := And.intro K3.out.c0 K3.out.c1
      refine ⟨hs2, ?_⟩
      refine wpAnyH_take (i := 5) (v := .int .i64 x) rfl (by kernel_rfl) (by kernel_rfl) (by kernel_rfl) (fun _ _ _ h => h) (.inl ⟨by rfl, fun U hU => by obtain ⟨u0, u1⟩ := hU; go_simp⟩) hs2 ?_
      refine wpAnyH_take (i := 6) (v := .agg #[.slice A3 rs.length c3, .int .i64 q]) rfl (by kernel_rfl) (by kernel_rfl) (by kernel_rfl) (fun _ _ _ h => h) (.inl ⟨by rfl, fun U hU => by obtain ⟨u0, u1⟩ := hU; go_simp⟩) hs2 ?_
      refine wpAnyH_take (i := 7) (v := .int .i64 er) rfl (by kernel_rfl) (by kernel_rfl) (by kernel_rfl) (fun _ _ _ h => h) (.inl ⟨by rfl, fun U hU => by obtain ⟨u0, u1⟩ := hU; go_simp⟩) hs2 ?_
      refine wpAnyH_take (i := 8) (v := .int .i64 x) rfl (by kernel_rfl) (by kernel_rfl) (by kernel_rfl) (fun _ _ _ h => h) (.inl ⟨by rfl, fun U hU => by obtain ⟨u0, u1⟩ := hU; go_simp⟩) hs2 ?_
      have k4 := ((K3.out.far (p := ⟨w.heap.size + 1, 0, none⟩) (by simp) (.slice A3 rs.length c3)).far (p := ⟨w.heap.size + 1, 1, none⟩) (by simp) (.int .i64 q))
      have hs3 := And.intro k4.c0 k4.c1
      have q0 := K7.out.c0
      have q1 := K7.out.c1
      have f0 := K7.out.frozen 0
      have f1 := K7.out.frozen 1
      have HB := Lib.hid ((BB.out.setCell (p := ⟨w.heap.size + 1, 0, none⟩) (by simp <;> omega) (.slice A3 rs.length c3)).setCell (p := ⟨w.heap.size + 1, 1, none⟩) (by simp <;> omega) (.int .i64 q))
      have HD := Lib.hid ((DO.out.far (p := ⟨w.heap.size + 1, 0, none⟩) (by simp) (.slice A3 rs.length c3)).far (p := ⟨w.heap.size + 1, 1, none⟩) (by simp) (.int .i64 q))
      refine wpAnyH_all (rs := [9]) (by kernel_rfl) (by simp) ?_
      intro i hi
      simp only [List.mem_cons, List.not_mem_nil, or_false] at hi
      subst hi
      unfold wpOp
      go_simp
      left
      refine wpAnyH_take (i := 10) (v := .int .i64 er) rfl (by kernel_rfl) (by kernel_rfl) (by kernel_rfl) (fun _ _ _ h => h) (.inl ⟨by rfl, fun U hU => by obtain ⟨u0, u1⟩ := hU; go_simp⟩) hs3 ?_
      refine wpAnyH_done (by kernel_rfl) ?_ _
      go_wp2
      exact bodyPost_ret (v := .tuple #[.int .i64 x, .agg #[.slice A3 rs.length c3, .int .i64 q], .int .i64 er]) (by simp [results, Try.results13, go_sem, *]) rfl ⟨A3, c3, rfl, HD.out.base (show w.heap.size ≤ w.heap.size + 1 + 1 by omega), HB.out⟩
    · rw [show luckPk bs N ts fs p = (0, [], 0, 1) from luckPk_1 (fun q => hl (by rw [← hf.1, ← hx.1]; exact q.2.2))]
      have HC := Lib.hid (chkLn_yes hok)
      have t0 : ((k : Int) != (n : Int)) = true := by simp; omega
      clear hl
      obtain ⟨k3, k7, b0⟩ := lies2 w #[.slice A N c, .int .i64 p] #[.slice none 0 0, .int .i64 0] 24 24
      have HO := Lib.hid (ho.below b0)
      have r0 := k3.c0
      have r1 := k3.c1
      have K3 := Lib.hid k3
      have K7 := Lib.hid k7
      have HZ := Lib.hid k7.lt
      have BB := Lib.hid b0
      have HX := Lib.hid (hx.below b0)
      have HF := Lib.hid (hf.below b0)
      have LX := Lib.hid hx.1
      have LF := Lib.hid hf.1
      clear k3 k7 b0 ho hx hf
      go_enter Try.func13, Try.ntmps13
      go_wp2_with fail
      refine (pchk_any B n d ts _ HX.out).mono ?_
      rw [HC.out]
      rintro e1 w1 ⟨rfl, b1⟩
      clear r0 r1
      replace K7 := Lib.hid (K7.out.below b1 K7.out.lt)
      replace BB := Lib.hid (below3 BB.out b1)
      clear b1
      have q0 := K7.out.c0
      have q1 := K7.out.c1
      have f0 := K7.out.frozen 0
      have f1 := K7.out.frozen 1
      have HB := Lib.hid ((BB.out.setCell (p := ⟨w.heap.size + 1, 0, none⟩) (by simp <;> omega) (.slice none 0 0)).setCell (p := ⟨w.heap.size + 1, 1, none⟩) (by simp <;> omega) (.int .i64 0))
      go_wp2
      exact bodyPost_ret (v := .tuple #[.int .i64 0, .agg #[.slice none 0 0, .int .i64 0], .int .i64 1]) (by simp [results, Try.results13, go_sem, *]) rfl (trip_none HB.out)
  · rw [show luckPk bs N ts fs p = (0, [], 0, 1) from luckPk_1 (fun q => hok q.2.1)]
    have HC := Lib.hid (chkLn_no hok)
    clear hok
    obtain ⟨k3, k7, b0⟩ := lies2 w #[.slice A N c, .int .i64 p] #[.slice none 0 0, .int .i64 0] 24 24
    have HO := Lib.hid (ho.below b0)
    have r0 := k3.c0
    have r1 := k3.c1
    have K3 := Lib.hid k3
    have K7 := Lib.hid k7
    have HZ := Lib.hid k7.lt
    have BB := Lib.hid b0
    have HX := Lib.hid (hx.below b0)
    have HF := Lib.hid (hf.below b0)
    have LX := Lib.hid hx.1
    have LF := Lib.hid hf.1
    clear k3 k7 b0 ho hx hf
    go_enter Try.func13, Try.ntmps13
    go_wp2_with fail
    refine (pchk_any B n d ts _ HX.out).mono ?_
    rw [HC.out]
    rintro e1 w1 ⟨rfl, b1⟩
    clear r0 r1
    replace K7 := Lib.hid (K7.out.below b1 K7.out.lt)
    replace BB := Lib.hid (below3 BB.out b1)
    clear b1
    have q0 := K7.out.c0
    have q1 := K7.out.c1
    have f0 := K7.out.frozen 0
    have f1 := K7.out.frozen 1
    have HB := Lib.hid ((BB.out.setCell (p := ⟨w.heap.size + 1, 0, none⟩) (by simp <;> omega) (.slice none 0 0)).setCell (p := ⟨w.heap.size + 1, 1, none⟩) (by simp <;> omega) (.int .i64 0))
    go_wp2
    exact bodyPost_ret (v := .tuple #[.int .i64 0, .agg #[.slice none 0 0, .int .i64 0], .int .i64 1]) (by simp [results, Try.results13, go_sem, *]) rfl (trip_none HB.out)

end Go.Proofs.Ytljfinfjchkphaa

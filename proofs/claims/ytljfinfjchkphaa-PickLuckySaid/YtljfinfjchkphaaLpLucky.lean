/-
  The law PickLucky of layer 16, walked.
-/
import Derived.Test.YtljfinfjchkphaaPkm
namespace Go.Proofs.Ytljfinfjchkphaa
open Go.RowKit

def mkPk (z : Int) : Tn := ⟨z, 0, 0, 0, 0⟩
theorem mk_th {zs : List Int} {j : Nat} (h : j < zs.length) : tth (zs.map mkPk) j = mkPk (nth zs j) := by
  rw [tth_get (by rw [List.length_map]; exact h), List.getElem_map, nth_get h]
theorem mk_ok {zs : List Int} (hl : 1 ≤ zs.length ∧ zs.length ≤ 8) (h : ∀ j, j < zs.length → 1 ≤ nth zs j ∧ nth zs j ≤ 16) : okLn (zs.map mkPk) := by
  refine ⟨by rw [List.length_map]; omega, fun j hj => ?_⟩
  rw [List.length_map] at hj
  rw [mk_th hj]
  have := h j hj
  unfold okTn mkPk
  dsimp only
  omega
theorem wl_at {zs : List Int} {fs : List Bool} {j : Nat} (h : j < zs.length) : nth (wtsPk (zs.map mkPk) fs) j = if bth fs j then nth zs j else 0 := by
  rw [wtsPk_at (by rw [List.length_map]; exact h), mk_th h]
  rfl
theorem wl_all {zs : List Int} {fs : List Bool} (h : ∀ j, j < zs.length → 1 ≤ nth zs j ∧ nth zs j ≤ 16) : ∀ x ∈ wtsPk (zs.map mkPk) fs, 0 ≤ x ∧ x ≤ 40 := by
  intro x hx
  obtain ⟨j, hj, rfl⟩ := nth_memPk.1 hx
  rw [wtsPk_len, List.length_map] at hj
  have := h j hj
  rw [wl_at hj]
  split <;> omega
theorem tns1 {w : World} {g : Nat} {t : TypeId} {x : Tn} (h : Bk w g t (tnc x)) (hf : FitTn x) : Tns w (some ⟨g, 0, none⟩) 1 1 [x] := by
  refine ⟨rfl, by omega, by simp [hf], fun _ => ⟨g, 0, rfl, h.lt, fun j hj => ?_⟩⟩
  obtain rfl : j = 0 := by omega
  exact ⟨h.cell 0, h.cell 1, h.cell 2, h.cell 3, h.cell 4⟩
theorem cnt_pick {ws : List Int} (h : ∀ x ∈ ws, 0 ≤ x) {n : Int} (h0 : 0 ≤ n) (h1 : n < ws.sum) : nth (cnt ws n) (pick ws n) = n - pre ws (pick ws n) ∧ 0 ≤ pre ws (pick ws n) ∧ 0 < nth ws (pick ws n) := by
  obtain ⟨p1, p2, p3⟩ := pick_place h0 h1
  rw [pre_succ p1] at p3
  have := pre_nonneg h (i := pick ws n) (by omega)
  rw [cnt_nth p1]
  omega
theorem flag_pick {a b : Int} {q : Bool} (h : a = if q then b else 0) (h0 : 0 < a) : q = true := by
  cases q with
  | true => rfl
  | false => simp at h; omega
theorem Flags.take_pk {w : World} {A : Option Addr} {n : Nat} {zs : List Bool} (h : Flags w A n zs) : n = zs.length := h.1.symm
theorem take_mapPk {zs : List Int} {i : Nat} (h : i < zs.length) : (zs.take (i + 1)).map mkPk = (zs.take i).map mkPk ++ [mkPk (nth zs i)] := by
  rw [take_nextPk h, List.map_append]
  rfl

set_option maxRecDepth 100000 in
set_option maxHeartbeats 8000000 in
theorem picklucky_any (B F : Option Addr) (n dw nf ef : Nat) (zs : List Int) (G : Nat → Bool) (w : World) (hh : Ints w B n zs) (hnf : nf ≤ ef ∧ ef ≤ 9223372036854775807) (hfl : ∀ k, k ≤ nf → k ≤ 400 → Flags w F k ((List.range k).map G)) :
    Calls Try.prog 5 #[.slice B n dw, .slice F nf ef] w (RetB (.bool true) w) := by
  have hh1 := hh.2.1
  by_cases g0 : (n : Int) < 1
  · replace g0 : decide ((n : Int) < 1) = true := decide_eq_true g0
    have BB := Lib.hid (Below.refl w.heap.size w)
    go_enter Try.func5, Try.ntmps5
    go_wp2_with fail
    refine (live16_any _).mono ?_
    try dsimp only
    rintro e U1 ⟨rfl, bU1⟩
    replace BB := Lib.hid (below3 BB.out bU1)
    clear bU1
    go_wp2
    go_ret
    exact ⟨rfl, BB.out⟩
  · by_cases g1 : 8 < (n : Int)
    · replace g0 : decide ((n : Int) < 1) = false := decide_eq_false g0
      replace g1 : decide (8 < (n : Int)) = true := decide_eq_true g1
      have BB := Lib.hid (Below.refl w.heap.size w)
      go_enter Try.func5, Try.ntmps5
      go_wp2_with fail
      refine (live16_any _).mono ?_
      try dsimp only
      rintro e U1 ⟨rfl, bU1⟩
      replace BB := Lib.hid (below3 BB.out bU1)
      clear bU1
      go_wp2
      go_ret
      exact ⟨rfl, BB.out⟩
    · by_cases g2 : nf < n
      · replace g0 : decide ((n : Int) < 1) = false := decide_eq_false g0
        replace g1 : decide (8 < (n : Int)) = false := decide_eq_false g1
        replace g2 : decide (nf < n) = true := decide_eq_true g2
        have BB := Lib.hid (Below.refl w.heap.size w)
        go_enter Try.func5, Try.ntmps5
        go_wp2_with fail
        refine (live16_any _).mono ?_
        try dsimp only
        rintro e U1 ⟨rfl, bU1⟩
        replace BB := Lib.hid (below3 BB.out bU1)
        clear bU1
        go_wp2
        go_ret
        exact ⟨rfl, BB.out⟩
      · have hn1 : 1 ≤ n := by omega
        have hn8 : n ≤ 8 := by omega
        have hnf2 : n ≤ nf := by omega
        have hfn := hfl n hnf2 (by omega)
        obtain ⟨fs, hfs⟩ : ∃ l, (List.range n).map G = l := ⟨_, rfl⟩
        rw [hfs] at hfn
        have LZ := Lib.hid hh.1
        have LF := Lib.hid hfn.1
        obtain ⟨ws, hws⟩ : ∃ l, wtsPk (zs.map mkPk) fs = l := ⟨_, rfl⟩
        have HWS := Lib.hid hws
        have HWA : Hid (∀ j, j < n → nth ws j = if bth fs j then nth zs j else 0) := Lib.hid (fun j hj => by rw [← hws]; exact wl_at (by rw [hh.1]; exact hj))
        have HWL : Hid (ws.length = n) := Lib.hid (by rw [← hws, wtsPk_len, List.length_map, hh.1])
        have hec : n ≤ ef := by omega
        obtain ⟨bf, of, hF, -⟩ := hfn.2.2 (by omega)
        subst hF
        replace g0 : decide ((n : Int) < 1) = false := decide_eq_false g0
        replace g1 : decide (8 < (n : Int)) = false := decide_eq_false g1
        replace g2 : decide (nf < n) = false := decide_eq_false g2
        obtain ⟨i0, hi, hz0, hz1, hz2⟩ := info_parts Try.intInfo
        have H_I := Lib.hid hi
        have HZ := Lib.hid hz0
        have HSZ := Lib.hid hz1
        have HB8 := Lib.hid hz2
        clear hi hz0 hz1 hz2 hfs hws hfl
        have IW := Lib.hid hh
        have FF := Lib.hid hfn
        have BB := Lib.hid (Below.refl w.heap.size w)
        go_enter Try.func5, Try.ntmps5
        go_wp2_with fail
        refine (live16_any _).mono ?_
        try dsimp only
        rintro e U1 ⟨rfl, bU1⟩
        replace IW := Lib.hid (IW.out.below bU1)
        replace FF := Lib.hid (FF.out.below bU1)
        replace BB := Lib.hid (below3 BB.out bU1)
        clear bU1
        go_wp2
        go_loopw [6, 7, 41] (fun t6 t7 t wr => ∃ (i mo : Nat) (z : Int) (Ao : Option Addr) (co : Nat), i ≤ n ∧ t = .int .i64 i ∧ t7 = .int .i64 z ∧ t6 = .slice Ao mo co ∧ (0 ≤ z ∧ z ≤ 16 * (i : Int)) ∧ Hid (z = pre ws i) ∧ Hid (mo = i) ∧ Hid (OwnTn 42 wr U1.heap.size Ao co ((zs.take i).map mkPk)) ∧ Hid (Below U1.heap.size U1 wr) ∧ Hid (∀ j, j < i → 1 ≤ nth zs j ∧ nth zs j ≤ 16)) (fun _ _ t _ => n - (intOf t).toNat)
        case atStart => exact ⟨0, 0, 0, none, 0, Nat.zero_le _, rfl, rfl, rfl, by omega, Lib.hid (pre_zero _).symm, Lib.hid rfl, Lib.hid (OwnTn.nil_ _ _ _), Lib.hid (Below.refl _ _), Lib.hid (fun j hj => by omega)⟩
        case round =>
          rename World => wr
          obtain ⟨i, mo, z, Ao, co, hi, rfl, rfl, rfl, hz, HP, HMO, OW, BW, OK⟩ := hrel
          by_cases hin : i < n
          · obtain ⟨b, o, rfl, hb, c0⟩ := (IW.out.below BW.out).at_pk hin
            have hil : i < zs.length := by rw [LZ.out]; exact hin
            obtain ⟨x, hx⟩ : ∃ x, nth zs i = x := ⟨_, rfl⟩
            rw [hx] at c0
            have HX1 := Lib.hid hx
            clear hx
            by_cases hx0 : x < 1
            · have t0 : decide (x < 1) = true := decide_eq_true (by omega)
              have HBF := Lib.hid (below3 BB.out BW.out)
              clear OW BW HP HMO
              go_wp2
              go_ret
              exact ⟨rfl, HBF.out⟩
            · by_cases hx6 : 16 < x
              · have t0 : decide (x < 1) = false := decide_eq_false (by omega)
                have t1 : decide (16 < x) = true := decide_eq_true (by omega)
                have HBF := Lib.hid (below3 BB.out BW.out)
                clear OW BW HP HMO
                go_wp2
                go_ret
                exact ⟨rfl, HBF.out⟩
              · have hx1 : 1 ≤ x ∧ x ≤ 16 := by omega
                have t0 : decide (x < 1) = false := decide_eq_false (by omega)
                have t1 : decide (16 < x) = false := decide_eq_false (by omega)
                have OK2 : Hid (∀ j, j < i + 1 → 1 ≤ nth zs j ∧ nth zs j ≤ 16) := Lib.hid (fun j hj => by
        by_cases e : j = i
        · subst e; rw [HX1.out]; exact hx1
        · exact OK.out j (by omega))
                have kt : Bk (wr.alloc (.cells #[.int .i64 x, .int .i64 0, .int .i64 0, .int .i64 0, .int .i64 0] 42)) wr.heap.size 42 (tnc (mkPk x)) := Bk.new wr 42 #[.int .i64 x, .int .i64 0, .int .i64 0, .int .i64 0, .int .i64 0]
                have ba := (Below.refl wr.heap.size wr).alloc (Nat.le_refl _) (.cells #[.int .i64 x, .int .i64 0, .int .i64 0, .int .i64 0, .int .i64 0] 42)
                have T1 := Lib.hid (tns1 kt (by unfold FitTn mkPk Fit; dsimp only; omega))
                have O1 := Lib.hid (OW.out.below ba)
                have B1 := Lib.hid (below3 BW.out ba)
                have HS1 := Lib.hid B1.out.size
                have HTK := Lib.hid (take_mapPk hil)
                obtain ⟨p1, hp1⟩ : ∃ p1, (zs.take i).map mkPk = p1 := ⟨_, rfl⟩
                have HML : Hid (mo = p1.length) := Lib.hid (by rw [← hp1, List.length_map, List.length_take, HMO.out]; omega)
                rw [hp1, HX1.out] at HTK
                rw [hp1] at O1
                have HPN : Hid (pre ws (i + 1) = z + nth ws i) := Lib.hid (by rw [pre_succ (by rw [HWL.out]; exact hin), HP.out])
                have hmi : mo ≤ 8 := by rw [HMO.out]; omega
                have HMI := Lib.hid (show mo + 1 = i + 1 by rw [HMO.out])
                clear hp1 OW BW kt ba OK HP HMO hil
                cases hbf : bth fs i with
                | false =>
                  have HPX : Hid (z = pre ws (i + 1)) := Lib.hid (by rw [HPN.out, HWA.out i hin, hbf]; simp)
                  have HFL := Lib.hid hbf
                  clear hbf
                  go_wp2_with (at_builtin; refine wpList_append_tns _ rfl _ _ 26 rfl 42 _ (by rfl) Try.underlying26 infoTn U1.heap.size Ao co p1 mo HML.out rfl O1.out (some ⟨wr.heap.size, 0, none⟩) 1 1 [mkPk x] rfl T1.out (by have := HML.out; omega) HS1.out ?_; intro A3 c3 w4 ho hgr; have O5 := Lib.hid ho; have B5 := Lib.hid (B1.out.grown hgr HS1.out (by intro k hk; exact O1.out.block k hk)); clear ho hgr T1 O1 B1; obtain ⟨b2, o2, e2, hb2, cf⟩ := (FF.out.below B5.out).at_pk hin; rw [HFL.out] at cf; injection e2 with e2; injection e2 with e3 e4; subst e3 e4)
                  have HN1 : Hid ((p1 ++ [mkPk x]).length = mo + 1) := Lib.hid (by have := HML.out; simp; omega)
                  go_roundw
                  case rel => exact ⟨i + 1, mo + 1, z, A3, c3, by omega, by go_num, by first | rfl | go_num, by first | rfl | rw [HN1.out] | (simp; exact HML.out.symm), by omega, HPX, HMI, Lib.hid (by rw [HTK.out]; exact O5.out), B5, OK2⟩
                  case measure => simp [intOf]; omega
                | true =>
                  have HPX : Hid (z + x = pre ws (i + 1)) := Lib.hid (by rw [HPN.out, HWA.out i hin, hbf]; rw [if_pos rfl, HX1.out])
                  have HFL := Lib.hid hbf
                  clear hbf
                  go_wp2_with (at_builtin; refine wpList_append_tns _ rfl _ _ 26 rfl 42 _ (by rfl) Try.underlying26 infoTn U1.heap.size Ao co p1 mo HML.out rfl O1.out (some ⟨wr.heap.size, 0, none⟩) 1 1 [mkPk x] rfl T1.out (by have := HML.out; omega) HS1.out ?_; intro A3 c3 w4 ho hgr; have O5 := Lib.hid ho; have B5 := Lib.hid (B1.out.grown hgr HS1.out (by intro k hk; exact O1.out.block k hk)); clear ho hgr T1 O1 B1; obtain ⟨b2, o2, e2, hb2, cf⟩ := (FF.out.below B5.out).at_pk hin; rw [HFL.out] at cf; injection e2 with e2; injection e2 with e3 e4; subst e3 e4)
                  have HN1 : Hid ((p1 ++ [mkPk x]).length = mo + 1) := Lib.hid (by have := HML.out; simp; omega)
                  go_roundw
                  case rel => exact ⟨i + 1, mo + 1, z + x, A3, c3, by omega, by go_num, by first | rfl | go_num, by first | rfl | rw [HN1.out] | (simp; exact HML.out.symm), by omega, HPX, HMI, Lib.hid (by rw [HTK.out]; exact O5.out), B5, OK2⟩
                  case measure => simp [intOf]; omega
          · obtain rfl : n = i := by omega
            have hall : zs.take n = zs := List.take_of_length_le (by rw [LZ.out]; exact Nat.le_refl _)
            rw [hall] at OW
            have hbnd : ∀ j, j < zs.length → 1 ≤ nth zs j ∧ nth zs j ≤ 16 := fun j hj => OK.out j (by rw [← LZ.out]; exact hj)
            have HOK : Hid (okLn (zs.map mkPk)) := Lib.hid (mk_ok (by rw [LZ.out]; omega) hbnd)
            have HALL : Hid (∀ x ∈ ws, 0 ≤ x ∧ x ≤ 40) := Lib.hid (by rw [← HWS.out]; exact wl_all hbnd)
            have HPOS : Hid (∀ x ∈ ws, 0 ≤ x) := Lib.hid (fun x hx => (HALL.out x hx).1)
            have HSUM : Hid (z = ws.sum) := Lib.hid (by rw [HP.out, ← pre_all, HWL.out])
            have HE := Lib.hid (weightE_small (ws := ws) (by rw [HWL.out]; omega) HALL.out)
            obtain ⟨s, rfl⟩ := Int.eq_ofNat_of_zero_le hz.1
            have hs128 : s ≤ 128 := by omega
            have HTL : Hid ((zs.map mkPk).length = n) := Lib.hid (by rw [List.length_map, LZ.out])
            obtain ⟨ts, hts⟩ : ∃ l, zs.map mkPk = l := ⟨_, rfl⟩
            rw [hts] at OW HOK HTL HWS
            have HLK : Hid (∀ (bs : List Int) (N : Nat) (p : Int), luckPk bs N ts fs p = hvPk bs N ws p) := Lib.hid (fun bs N p => by rw [luck_hv ⟨HOK.out, by rw [LF.out, HTL.out]⟩, HWS.out])
            have HMO2 := HMO.out
            subst HMO2
            have TT : Hid (Tns wr Ao mo co ts) := Lib.hid (by have := OW.out.tns; rwa [HTL.out] at this)
            have BB1 := Lib.hid (below3 BB.out BW.out)
            have IW1 := Lib.hid (IW.out.below BW.out)
            have FF1 := Lib.hid (FF.out.below BW.out)
            clear OW BW BB hall hbnd hts hz HP OK HMO HOK IW FF HALL
            go_wp2_with (at_make; refine wpList_make_full _ rfl _ _ 25 rfl wr.heap.size 3 i0 (.int .i64 0) 1 Try.underlying25 H_I.out HZ.out HSZ.out .i64 .i64 _ _ mo rfl rfl rfl rfl (by rw [HB8.out]; omega) (by unfold maxLen; omega) (Nat.le_refl _) ?_; intro w9 hown hgrow; have HW := Lib.hid hown; have HG := Lib.hid hgrow; clear hown hgrow)
            have B9 : Hid (Below wr.heap.size wr w9) := Lib.hid ((Below.refl _ _).grown HG.out (Nat.le_refl _) (by simp))
            have O0 : Hid (OwnI 3 w9 wr.heap.size (some ⟨wr.heap.size, 0, none⟩) mo (cnt ws ((0 : Nat) : Int))) := Lib.hid (by have h := cnt_zero HPOS.out; rw [HWL.out] at h; rw [show ((0 : Nat) : Int) = 0 from rfl, h]; exact OwnI.zeros (by omega) HW.out)
            clear HW HG H_I HZ HSZ HB8
            go_loopw [74] (fun t wq => ∃ m : Nat, m ≤ s ∧ t = .int .i64 m ∧ Hid (OwnI 3 wq wr.heap.size (some ⟨wr.heap.size, 0, none⟩) mo (cnt ws m)) ∧ Hid (Below wr.heap.size wr wq)) (fun t _ => s - (intOf t).toNat)
            case atStart => exact ⟨0, Nat.zero_le _, rfl, O0, B9⟩
            case round =>
              rename World => wq
              obtain ⟨m, hm, rfl, OQ, BQ⟩ := hrel
              by_cases hms0 : m < s
              · have n0 : (0 : Int) ≤ (m : Int) := by omega
                have n1 : (m : Int) < 128 := by omega
                have hms : (m : Int) < ws.sum := by rw [← HSUM.out]; omega
                have HE0 : Hid (weightE ws = 0) := Lib.hid (by rw [HE.out, if_neg (by omega)])
                obtain ⟨p1, p2, p3⟩ := pick_place n0 hms
                have hdr : drawAt [0, (m : Int)] 0 % ws.sum = (m : Int) := by rw [show drawAt [0, (m : Int)] 0 = (m : Int) by show 256 * 0 + (m : Int) = m; omega]; exact Int.emod_eq_of_lt n0 hms
                have HC : Hid ((cnt ws m).set (pick ws m) (nth (cnt ws m) (pick ws m) + 1) = cnt ws ((m + 1 : Nat) : Int)) := Lib.hid (cnt_step HPOS.out n0 hms)
                have hpk : pick ws m < mo := by rw [← HWL.out]; exact p1
                obtain ⟨hcn, hpn, hwp⟩ := cnt_pick HPOS.out n0 hms
                have hfl : bth fs (pick ws m) = true := flag_pick (HWA.out _ hpk) hwp
                obtain ⟨rs, hrs⟩ : ∃ l : List Int, [0, (m : Int)] = l := ⟨_, rfl⟩
                have HL : Hid (luckPk rs 2 ts fs 0 = ((pick ws m : Int), rs, 2, 0)) := Lib.hid (by rw [HLK.out, ← hrs]; unfold hvPk; rw [if_pos (by omega), if_pos HE0.out]; simp only [Int.toNat_zero, hdr]; rfl)
                generalize pick ws m = i at HC hpk hcn p2 hpn hfl HL
                obtain ⟨x, hx⟩ : ∃ x, nth (cnt ws m) i = x := ⟨_, rfl⟩
                rw [hx] at hcn HC
                have x0 : 0 ≤ x ∧ x ≤ 128 := by omega
                have HX := Lib.hid hx
                have HFL := Lib.hid hfl
                have t1 : decide ((i : Int) < 0) = false := decide_eq_false (by omega)
                have t2 : decide (mo ≤ i) = false := decide_eq_false (by omega)
                have k0 := Bk.new wq 5 #[.int .u8 0, .int .u8 (m : Int)]
                have ha := (Below.refl wq.heap.size wq).alloc (Nat.le_refl _) (.cells #[.int .u8 0, .int .u8 (m : Int)] 5)
                have OO : Hid (Octs (wq.alloc (.cells #[.int .u8 0, .int .u8 (m : Int)] 5)) (some ⟨wq.heap.size, 0, none⟩) 2 rs) := Lib.hid (by rw [← hrs]; exact octs2 k0 (by unfold Oct; omega) (by unfold Oct; omega))
                have TQ := Lib.hid ((TT.out.below BQ.out).below ha)
                have FQ := Lib.hid ((FF1.out.below BQ.out).below ha)
                have OQ2 := Lib.hid (OQ.out.below ha)
                have BQ2 := Lib.hid (below3 BQ.out ha)
                clear k0 ha p1 p2 p3 hcn hpn hx hfl hdr hrs hms OQ BQ HE0
                go_wp2_with fail
                refine (lucky_any _ Ao (some ⟨bf, of, none⟩) 2 2 mo co mo ef 0 rs ts fs _ OO.out TQ.out FQ.out).mono ?_
                rw [HL.out]
                rintro e w6 ⟨A2, c2, rfl, -, hb⟩
                dsimp only at hb ⊢
                have kt := Bk.new w6 24 #[.slice A2 rs.length c2, .int .i64 2]
                have ba := (Below.refl w6.heap.size w6).alloc (Nat.le_refl _) (.cells #[.slice A2 rs.length c2, .int .i64 2] 24)
                replace OQ2 := Lib.hid ((OQ2.out.below hb).below ba)
                replace BQ2 := Lib.hid (below3 (below3 BQ2.out hb) ba)
                replace FQ := Lib.hid ((FQ.out.below hb).below ba)
                obtain ⟨W7, hW⟩ : ∃ W, w6.alloc (.cells #[.slice A2 rs.length c2, .int .i64 2] 24) = W := ⟨_, rfl⟩
                rw [hW] at kt OQ2 BQ2 FQ
                obtain ⟨g7, hg⟩ : ∃ g, w6.heap.size = g := ⟨_, rfl⟩
                rw [hg] at kt
                have KT := Lib.hid kt
                have HW := Lib.hid hW
                have HG := Lib.hid hg
                clear hW hg kt ba hb OO TQ HL
                go_upto_region 23 with fail
                rw [HW.out]
                try rw [HG.out]
                clear HW HG
                have a1 := KT.out.c1
                have al := KT.out.lt
                obtain ⟨b2, o2, e2, hb2, cf⟩ := FQ.out.at_pk hpk
                injection e2 with e2
                injection e2 with e3 e4
                subst e3 e4
                rw [HFL.out] at cf
                obtain ⟨c1, f1⟩ := OQ2.out.at_ (j := i) (by rw [cnt_len, HWL.out]; exact hpk)
                rw [HX.out] at c1
                have O7 := Lib.hid (OQ2.out.set_ i (x := x + 1) (by unfold Fit; omega))
                rw [HC.out] at O7
                have B7 := Lib.hid (BQ2.out.setCell (p := ⟨wr.heap.size, i, none⟩) (Nat.le_refl _) (.int .i64 (x + 1)))
                have ol := OQ2.out.lt
                clear OQ2 BQ2 FQ HC HX
                go_wp2
                go_roundw
                case rel => exact ⟨m + 1, by omega, by go_num, O7, B7⟩
                case measure => simp [intOf]; omega
              · obtain rfl : s = m := by omega
                have HM2 : Hid (cnt ws (s : Int) = ws) := Lib.hid (by rw [HSUM.out]; exact cnt_all HPOS.out)
                rw [HM2.out] at OQ
                have OI := Lib.hid (OQ.out.intsN HWL.out)
                have IW2 := Lib.hid (IW1.out.below BQ.out)
                have FF2 := Lib.hid (FF1.out.below BQ.out)
                have TT2 := Lib.hid (TT.out.below BQ.out)
                have BB2 := Lib.hid (below3 BB1.out BQ.out)
                clear OQ BQ IW1 FF1 TT BB1 O0 B9 HM2
                have HWL2 := Lib.hid HWL.out
                try rw [HWL2.out]
                go_wp2
                go_loopw [121] (fun t wz => wq = wz ∧ ∃ i : Nat, i ≤ mo ∧ t = .int .i64 i) (fun t _ => mo - (intOf t).toNat)
                case atStart => exact ⟨rfl, 0, Nat.zero_le _, rfl⟩
                case round =>
                  rename World => wz
                  obtain ⟨rfl, i, hi, rfl⟩ := hrel
                  by_cases him : i < mo
                  · obtain ⟨bm, om, em, hbm, cm⟩ := OI.out.at_pk him
                    injection em with em
                    injection em with e3 e4
                    subst e3 e4
                    obtain ⟨b2, o2, e2, hb2, cf⟩ := FF2.out.at_pk him
                    injection e2 with e2
                    injection e2 with e3 e4
                    subst e3 e4
                    obtain ⟨b3, o3, rfl, hb3, cw⟩ := IW2.out.at_pk him
                    obtain ⟨x, hx⟩ : ∃ x, nth zs i = x := ⟨_, rfl⟩
                    rw [hx] at cw
                    try simp only [Nat.zero_add] at cm
                    cases hbf : bth fs i with
                    | false =>
                      rw [hbf] at cf
                      have h1 : nth ws i = 0 := by rw [HWA.out i him, hbf]; rfl
                      rw [h1] at cm
                      clear h1 hbf hx
                      go_wp2
                      go_roundw
                      case rel => exact ⟨trivial, i + 1, by omega, by go_num⟩
                      case measure => simp [intOf]; omega
                    | true =>
                      rw [hbf] at cf
                      have h1 : nth ws i = x := by rw [HWA.out i him, hbf, if_pos rfl, hx]
                      rw [h1] at cm
                      clear h1 hbf hx
                      go_wp2
                      go_roundw
                      case rel => exact ⟨trivial, i + 1, by omega, by go_num⟩
                      case measure => simp [intOf]; omega
                  · obtain rfl : mo = i := by omega
                    by_cases hs : s = 0
                    · have hE : weightE ws = 5 := by rw [HE.out, if_pos (by rw [← HSUM.out, hs]; rfl)]
                      obtain ⟨⟨x9, rs9, q9, e9⟩, h9⟩ : ∃ a, luckPk [] 0 ts fs 0 = a := ⟨_, rfl⟩
                      have h8 : e9 = 5 := by
                        have := h9
                        rw [HLK.out] at this
                        unfold hvPk at this
                        rw [if_pos (by omega), if_neg (by rw [hE]; decide), hE] at this
                        injection this with _ this
                        injection this with _ this
                        injection this with _ this
                        exact this.symm
                      subst h8
                      have HL := Lib.hid h9
                      clear h9 hE
                      have t5 : decide (0 < s) = false := decide_eq_false (by omega)
                      have t6 : decide ((0 : Int) < (s : Int)) = false := decide_eq_false (by omega)
                      clear hs
                      go_wp2_with fail
                      refine (lucky_any none Ao (some ⟨bf, of, none⟩) 0 0 mo co mo ef 0 [] ts fs _ (Octs.nil_ _ _) TT2.out FF2.out).mono ?_
                      rw [HL.out]
                      rintro e w8 ⟨A8, c8, rfl, -, hb⟩
                      dsimp only at hb ⊢
                      have BZ := Lib.hid (below_alloc (below3 BB2.out hb) (.cells #[.slice A8 rs9.length c8, .int .i64 q9] 24))
                      clear hb
                      go_wp2
                      go_ret
                      exact ⟨rfl, BZ.out⟩
                    · have hE : weightE ws = 0 := by rw [HE.out, if_neg (by rw [← HSUM.out]; omega)]
                      obtain ⟨⟨x9, rs9, q9, e9⟩, h9⟩ : ∃ a, luckPk [] 0 ts fs 0 = a := ⟨_, rfl⟩
                      have h8 : e9 = 0 := by
                        have := h9
                        rw [HLK.out] at this
                        unfold hvPk at this
                        rw [if_pos (by omega), if_pos hE] at this
                        injection this with _ this
                        injection this with _ this
                        injection this with _ this
                        exact this.symm
                      subst h8
                      have HL := Lib.hid h9
                      clear h9 hE
                      have t5 : decide (0 < s) = true := decide_eq_true (by omega)
                      have t6 : decide ((0 : Int) < (s : Int)) = true := decide_eq_true (by omega)
                      clear hs
                      go_wp2_with fail
                      refine (lucky_any none Ao (some ⟨bf, of, none⟩) 0 0 mo co mo ef 0 [] ts fs _ (Octs.nil_ _ _) TT2.out FF2.out).mono ?_
                      rw [HL.out]
                      rintro e w8 ⟨A8, c8, rfl, -, hb⟩
                      dsimp only at hb ⊢
                      have BZ := Lib.hid (below_alloc (below3 BB2.out hb) (.cells #[.slice A8 rs9.length c8, .int .i64 q9] 24))
                      clear hb
                      go_wp2
                      go_ret
                      exact ⟨rfl, BZ.out⟩

end Go.Proofs.Ytljfinfjchkphaa

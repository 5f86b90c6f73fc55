/-
  The law HeapBack: a timer that is added, and cancelled, leaves the same timers; one set to its own time, too; the first one comes behind none: the walk.
-/
import Derived.Test.YtjamoafihmcmeaaLHLeast
namespace Go.Proofs.Ytjamoafihmcmeaa
open Go.RowKit

theorem addR_zero {l : List Tm} {t : Tm} (h : (addR l t).1 = 0) : heapOk l ∧ mayT t ∧ ¬ hasId l t.2 ∧ l.length ≠ 256 := by
  unfold addR at h
  by_cases h1 : heapOk l ∧ mayT t
  · rw [if_pos h1] at h
    by_cases h2 : hasId l t.2
    · rw [if_pos h2] at h; exact absurd h (by decide)
    · rw [if_neg h2] at h
      by_cases h3 : l.length = 256
      · rw [if_pos h3] at h; exact absurd h (by decide)
      · exact ⟨h1.1, h1.2, h2, h3⟩
  · rw [if_neg h1] at h; exact absurd h (by decide)
theorem lessId_none {l : List Tm} {id : Int} (h : ¬ hasId l id) : lessId l id = l := by
  unfold lessId
  rw [List.filter_eq_self]
  intro t ht
  have : t.2 ≠ id := fun q => h (q ▸ hasId_of ht)
  simpa using this
theorem lessId_cons {l : List Tm} {x : Tm} (h : ¬ hasId l x.2) : lessId (x :: l) x.2 = l := by
  have := lessId_none h
  unfold lessId at this ⊢
  rw [List.filter_cons, if_neg (by simp)]
  exact this
/-- One set to its own time: the same timers. -/
theorem own_time {l : List Tm} (h : heapOk l) {k : Nat} (hk : k < l.length) {x1 x2 : Int} (hz : ith l k = (x1, x2)) (z : Int) (a : List Tm) (s : ResetSpec l x2 x1 z a) : z = 0 ∧ a.Perm l := by
  have hm : mayT (x1, x2) := by rw [← hz]; exact (h.2 k hk).1
  have hid : hasId l x2 := ⟨k, hk, by unfold jA; rw [hz]⟩
  have z0 : z = 0 := by rw [s.1, resetR, if_pos ⟨h, hm.1, hm.2.1⟩, if_pos hid]
  refine ⟨z0, (s.2.2 z0).2.trans ?_⟩
  have e1 := erase_id h.noTwo hk (show jA l k = x2 by unfold jA; rw [hz])
  have e2 := perm_erase hk
  rw [← ith_get hk, hz] at e2
  exact (e1.symm.cons _).trans e2.symm

set_option maxRecDepth 100000 in
set_option maxHeartbeats 4000000 in
theorem lback_any (A : Option Addr) (n c : Nat) (l : List Tm) (t1 t2 : Int) (w : World) (hx : Tms w A n c l) (f1 : Fit t1) (f2 : Fit t2) :
    Calls Try.prog 6 #[.slice A n c, .agg #[.int .i64 t1, .int .i64 t2]] w (TrueAns w) := by
  have HX := Lib.hid hx
  have LX := Lib.hid hx.1
  have F1 := Lib.hid f1
  have F2 := Lib.hid f2
  have hnc := hx.2.1
  have k0 := Bk.new w 24 #[.int .i64 t1, .int .i64 t2]
  have b0 := (Below.refl w.heap.size w).alloc (Nat.le_refl _) (.cells #[.int .i64 t1, .int .i64 t2] 24)
  obtain ⟨gt, hgt⟩ : ∃ g, w.heap.size = g := ⟨_, rfl⟩
  obtain ⟨W, hW⟩ : ∃ W, w.alloc (.cells #[.int .i64 t1, .int .i64 t2] 24) = W := ⟨_, rfl⟩
  rw [hW] at k0 b0
  rw [hgt] at k0
  have HW := Lib.hid hW
  have HGT := Lib.hid hgt
  have K0 := Lib.hid k0
  have B0 := Lib.hid b0
  clear hx f1 f2 k0 b0 hW hgt
  go_enter Try.func6, Try.ntmps6
  go_upto_region 1 with fail
  rw [HW.out]
  try rw [HGT.out]
  clear HW
  go_wp2_with fail
  refine (live_any _).mono ?_
  rintro e w1 ⟨rfl, b1⟩
  have K1 := Lib.hid (K0.out.below b1 K0.out.lt)
  have B1 := Lib.hid (below3 B0.out b1)
  clear b1 K0 B0
  by_cases h260 : 260 < n
  · go_wp2_with fail
    go_ret
    exact ⟨rfl, B1.out⟩
  · go_wp2_with fail
    refine (pcheck_any A n c l _ (HX.out.below B1.out)).mono ?_
    by_cases hok : heapOk l
    · rw [if_pos hok]
      rintro e w2 ⟨rfl, b2⟩
      have K2 := Lib.hid (K1.out.below b2 K1.out.lt)
      have B2 := Lib.hid (below3 B1.out b2)
      have HOK := Lib.hid hok
      clear b2 K1 B1 hok
      have q0 : _ = some (Value.int .i64 t1) := K2.out.cell 0
      have q1 : _ = some (Value.int .i64 t2) := K2.out.cell 1
      have lq := K2.out.lt
      go_wp2_with fail
      refine (padd_any A n c l t1 t2 _ (HX.out.below B2.out) F1.out F2.out).mono ?_
      rintro e w3 ⟨A3, c3, a3, z3, rfl, s3, o3, b3⟩
      have K3 := Lib.hid (K2.out.below b3 K2.out.lt)
      have B3 := Lib.hid (below3 B2.out b3)
      clear q0 q1 lq K2 B2
      by_cases hz : z3 = 0
      · subst hz
        obtain ⟨hk3, hp3⟩ := s3.2.2 rfl
        have hni : ¬ hasId l t2 := (addR_zero s3.1.symm).2.2.1
        have hlen : a3.length = n + 1 := by rw [hp3.length_eq, List.length_cons, LX.out]
        rw [hlen]
        have HK3 := Lib.hid hk3
        have HP3 := Lib.hid hp3
        have HNI := Lib.hid hni
        have O3 := Lib.hid (hlen ▸ o3.tms)
        have HLEN := Lib.hid hlen
        clear s3 b3 hk3 hp3 hni o3 hlen
        have q1 : _ = some (Value.int .i64 t2) := K3.out.cell 1
        have lq := K3.out.lt
        go_wp2_with fail
        refine (pcancel_any A3 (n + 1) c3 a3 t2 _ O3.out).mono ?_
        rintro e w4 ⟨A4, c4, a4, z4, rfl, s4, o4, b4⟩
        have hin : hasId a3 t2 := hasId_iff.2 (by rw [(HP3.out.map _).mem_iff]; simp)
        obtain rfl : z4 = 0 := by rw [s4.1, cancelR, if_pos HK3.out, if_pos hin]
        have hp4 : a4.Perm l := by
          have h1 := (s4.2.2 rfl).2.trans (lessId_perm HP3.out t2)
          rw [show lessId ((t1, t2) :: l) t2 = l from lessId_cons (x := (t1, t2)) HNI.out] at h1
          exact h1
        have B4 := Lib.hid (below3 B3.out b4)
        have HS4 := Lib.hid (decide_eq_true hp4 ▸ psame_any A4 A a4.length c4 n c a4 l w4 o4.tms (HX.out.below B4.out) (by rw [hp4.length_eq]; have := HOK.out.few; omega) (by omega))
        clear s4 o4 b4 hin hp4 q1 lq K3 B3 O3
        go_wp2_with fail
        refine HS4.out.mono ?_
        rintro e w5 ⟨rfl, b5⟩
        have BW := Lib.hid (below3 B4.out b5)
        clear b5 HS4 B4
        go_wp2_with fail
        go_loopw [63] (fun t wr => ∃ k : Nat, t = .int .i64 (k : Int) ∧ k ≤ n ∧ Hid (Below w.heap.size w wr)) (fun t _ => n - (intOf t).toNat)
        case atStart => exact ⟨0, rfl, Nat.zero_le _, BW⟩
        case round =>
          clear BW
          rename World => wr
          obtain ⟨k, rfl, hk, BW⟩ := hrel
          by_cases hkn : k < n
          · obtain ⟨bA, oA, rfl, hbA, c0, c1⟩ := (HX.out.below BW.out).at_ hkn
            obtain ⟨fa, fb⟩ := HX.out.fit hkn
            have hkl : k < l.length := by rw [LX.out]; exact hkn
            obtain ⟨x1, hx1⟩ : ∃ z, jO l k = z := ⟨_, rfl⟩
            obtain ⟨x2, hx2⟩ : ∃ z, jA l k = z := ⟨_, rfl⟩
            have hz : ith l k = (x1, x2) := by rw [← hx1, ← hx2]; rfl
            rw [hx1] at c0 fa
            rw [hx2] at c1 fb
            have HR1 := Lib.hid (own_time HOK.out hkl hz)
            have FA := Lib.hid fa
            have k1 := Bk.new wr 24 #[.int .i64 x1, .int .i64 x2]
            have b1 := (Below.refl wr.heap.size wr).alloc (Nat.le_refl _) (.cells #[.int .i64 x1, .int .i64 x2] 24)
            obtain ⟨gu, hgu⟩ : ∃ g, wr.heap.size = g := ⟨_, rfl⟩
            obtain ⟨V, hV⟩ : ∃ V, wr.alloc (.cells #[.int .i64 x1, .int .i64 x2] 24) = V := ⟨_, rfl⟩
            rw [hV] at k1 b1
            rw [hgu] at k1
            have BV := Lib.hid (below3 BW.out b1)
            have K1 := Lib.hid k1
            have HV := Lib.hid hV
            have HGU := Lib.hid hgu
            clear hV hgu k1 b1 hx1 hx2 fa fb hz BW
            go_upto_region 14 with fail
            rw [HV.out]
            try rw [HGU.out]
            clear HV HGU c0 c1 hbA
            have q0 : _ = some (Value.int .i64 x1) := K1.out.cell 0
            have q1 : _ = some (Value.int .i64 x2) := K1.out.cell 1
            have lq := K1.out.lt
            go_wp2_with fail
            refine (preset_any _ n c l x2 x1 _ (HX.out.below BV.out) FA.out).mono ?_
            rintro e w4 ⟨A4, c4, a4, z4, rfl, s4, o4, b4⟩
            obtain ⟨rfl, hp4⟩ := HR1.out _ _ s4
            have HP4 := Lib.hid hp4
            have BF := Lib.hid (below3 BV.out b4)
            have HS4 := Lib.hid (decide_eq_true hp4 ▸ psame_any A4 _ a4.length c4 n c a4 l w4 o4.tms (HX.out.below BF.out) (by rw [hp4.length_eq]; have := HOK.out.few; omega) (by omega))
            clear s4 o4 b4 hp4 q0 q1 lq K1 BV
            go_wp2_with fail
            refine HS4.out.mono ?_
            rintro e w5 ⟨rfl, b5⟩
            have BG := Lib.hid (below3 BF.out b5)
            clear b5 HS4 BF
            go_wp2_with fail
            go_roundw
            case rel => exact ⟨k + 1, by go_num, by omega, BG⟩
            case measure => simp only [intOf]; omega
          · have hkn' : k = n := by omega
            have HKN := Lib.hid hkn'
            clear hkn'
            go_wp2_with fail
            refine (pleast_any _ n c l _ (HX.out.below BW.out)).mono ?_
            by_cases h0 : n = 0
            · have HL : leastR l = (5, (0, 0)) := by rw [leastR, if_pos HOK.out, if_pos (by rw [LX.out]; exact h0)]
              rw [HL]
              rintro e w4 ⟨rfl, b4⟩
              have BF := Lib.hid (below3 BW.out (b4.trans (((Below.refl w4.heap.size w4).alloc (Nat.le_refl _) (.cells #[.int .i64 0, .int .i64 0] 24)).mono b4.size)))
              have t1 : ((n : Int) == 0) = true := by simpa using h0
              have HH := Lib.hid h0
              clear b4 HL h0
              go_wp2_with fail
              go_ret
              exact ⟨rfl, BF.out⟩
            · obtain ⟨y1, y2, hy⟩ : ∃ y1 y2, ith l 0 = (y1, y2) := ⟨_, _, rfl⟩
              have HL : leastR l = (0, (y1, y2)) := by rw [leastR, if_pos HOK.out, if_neg (by rw [LX.out]; exact h0), least_first HOK.out (fun q => h0 (by rw [← LX.out, q]; rfl)), hy]
              rw [HL]
              rintro e w4 ⟨rfl, b4⟩
              have B4 := Lib.hid (below3 BW.out b4)
              have HY := Lib.hid hy
              clear b4 HL h0 hy BW
              have k5 := Bk.new w4 24 #[.int .i64 y1, .int .i64 y2]
              have b5 := (Below.refl w4.heap.size w4).alloc (Nat.le_refl _) (.cells #[.int .i64 y1, .int .i64 y2] 24)
              obtain ⟨gv, hgv⟩ : ∃ g, w4.heap.size = g := ⟨_, rfl⟩
              obtain ⟨V, hV⟩ : ∃ V, w4.alloc (.cells #[.int .i64 y1, .int .i64 y2] 24) = V := ⟨_, rfl⟩
              rw [hV] at k5 b5
              rw [hgv] at k5
              have KV := Lib.hid k5
              have BV := Lib.hid (below3 B4.out b5)
              have HV := Lib.hid hV
              have HGV := Lib.hid hgv
              clear hV hgv k5 b5 B4
              go_upto_region 19 with fail
              rw [HV.out]
              try rw [HGV.out]
              clear HV HGV
              have BV0 := Lib.hid (Below.refl V.heap.size V)
              go_wp2_with fail
              go_loopw [104] (fun t wr => ∃ k : Nat, t = .int .i64 (k : Int) ∧ k ≤ n ∧ Hid (Below V.heap.size V wr)) (fun t _ => n - (intOf t).toNat)
              case atStart => exact ⟨0, rfl, Nat.zero_le _, BV0⟩
              case round =>
                clear BV0
                rename World => wr
                obtain ⟨k, rfl, hk, BW⟩ := hrel
                by_cases hkn : k < n
                · obtain ⟨bA, oA, rfl, hbA, c0, c1⟩ := (HX.out.below (below3 BV.out BW.out)).at_ hkn
                  have hkl : k < l.length := by rw [LX.out]; exact hkn
                  obtain ⟨x1, hx1⟩ : ∃ z, jO l k = z := ⟨_, rfl⟩
                  obtain ⟨x2, hx2⟩ : ∃ z, jA l k = z := ⟨_, rfl⟩
                  have hz : ith l k = (x1, x2) := by rw [← hx1, ← hx2]; rfl
                  rw [hx1] at c0
                  rw [hx2] at c1
                  have HNL := Lib.hid (show ¬ lessT (x1, x2) (y1, y2) by
                    have := HOK.out.least k hkl
                    rw [hz, HY.out] at this
                    exact this)
                  have k1 := Bk.new wr 24 #[.int .i64 x1, .int .i64 x2]
                  have b1 := (Below.refl wr.heap.size wr).alloc (Nat.le_refl _) (.cells #[.int .i64 x1, .int .i64 x2] 24)
                  have k2 := (KV.out.below BW.out KV.out.lt).alloc (.cells #[.int .i64 x1, .int .i64 x2] 24)
                  obtain ⟨gu, hgu⟩ : ∃ g, wr.heap.size = g := ⟨_, rfl⟩
                  obtain ⟨U, hU⟩ : ∃ V, wr.alloc (.cells #[.int .i64 x1, .int .i64 x2] 24) = V := ⟨_, rfl⟩
                  rw [hU] at k1 b1 k2
                  rw [hgu] at k1
                  have BU := Lib.hid (below3 BW.out b1)
                  have K1 := Lib.hid k1
                  have K2 := Lib.hid k2
                  have HU := Lib.hid hU
                  have HGU := Lib.hid hgu
                  clear hU hgu k1 k2 b1 hx1 hx2 hz BW
                  go_upto_region 24 with fail
                  rw [HU.out]
                  try rw [HGU.out]
                  clear HU HGU c0 c1 hbA
                  have q0 : _ = some (Value.int .i64 x1) := K1.out.cell 0
                  have q1 : _ = some (Value.int .i64 x2) := K1.out.cell 1
                  have r0 : _ = some (Value.int .i64 y1) := K2.out.cell 0
                  have r1 : _ = some (Value.int .i64 y2) := K2.out.cell 1
                  have lq := K1.out.lt
                  have lr := K2.out.lt
                  go_wp2_with fail
                  refine (less_any x1 x2 y1 y2 _).mono ?_
                  rw [decide_eq_false HNL.out]
                  rintro e w6 ⟨rfl, b6⟩
                  have BG := Lib.hid (below3 BU.out b6)
                  clear b6 q0 q1 r0 r1 lq lr BU K1 K2
                  go_wp2_with fail
                  go_roundw
                  case rel => exact ⟨k + 1, by go_num, by omega, BG⟩
                  case measure => simp only [intOf]; omega
                · have BF := Lib.hid (below3 BV.out BW.out)
                  go_wp2_with fail
                  go_ret
                  exact ⟨rfl, BF.out⟩
      · have t0 : (z3 == 0) = false := by simpa using hz
        have BW := B3
        clear s3 o3 b3 hz
        go_wp2_with fail
        go_loopw [63] (fun t wr => ∃ k : Nat, t = .int .i64 (k : Int) ∧ k ≤ n ∧ Hid (Below w.heap.size w wr)) (fun t _ => n - (intOf t).toNat)
        case atStart => exact ⟨0, rfl, Nat.zero_le _, BW⟩
        case round =>
          clear BW
          rename World => wr
          obtain ⟨k, rfl, hk, BW⟩ := hrel
          by_cases hkn : k < n
          · obtain ⟨bA, oA, rfl, hbA, c0, c1⟩ := (HX.out.below BW.out).at_ hkn
            obtain ⟨fa, fb⟩ := HX.out.fit hkn
            have hkl : k < l.length := by rw [LX.out]; exact hkn
            obtain ⟨x1, hx1⟩ : ∃ z, jO l k = z := ⟨_, rfl⟩
            obtain ⟨x2, hx2⟩ : ∃ z, jA l k = z := ⟨_, rfl⟩
            have hz : ith l k = (x1, x2) := by rw [← hx1, ← hx2]; rfl
            rw [hx1] at c0 fa
            rw [hx2] at c1 fb
            have HR1 := Lib.hid (own_time HOK.out hkl hz)
            have FA := Lib.hid fa
            have k1 := Bk.new wr 24 #[.int .i64 x1, .int .i64 x2]
            have b1 := (Below.refl wr.heap.size wr).alloc (Nat.le_refl _) (.cells #[.int .i64 x1, .int .i64 x2] 24)
            obtain ⟨gu, hgu⟩ : ∃ g, wr.heap.size = g := ⟨_, rfl⟩
            obtain ⟨V, hV⟩ : ∃ V, wr.alloc (.cells #[.int .i64 x1, .int .i64 x2] 24) = V := ⟨_, rfl⟩
            rw [hV] at k1 b1
            rw [hgu] at k1
            have BV := Lib.hid (below3 BW.out b1)
            have K1 := Lib.hid k1
            have HV := Lib.hid hV
            have HGU := Lib.hid hgu
            clear hV hgu k1 b1 hx1 hx2 fa fb hz BW
            go_upto_region 14 with fail
            rw [HV.out]
            try rw [HGU.out]
            clear HV HGU c0 c1 hbA
            have q0 : _ = some (Value.int .i64 x1) := K1.out.cell 0
            have q1 : _ = some (Value.int .i64 x2) := K1.out.cell 1
            have lq := K1.out.lt
            go_wp2_with fail
            refine (preset_any _ n c l x2 x1 _ (HX.out.below BV.out) FA.out).mono ?_
            rintro e w4 ⟨A4, c4, a4, z4, rfl, s4, o4, b4⟩
            obtain ⟨rfl, hp4⟩ := HR1.out _ _ s4
            have HP4 := Lib.hid hp4
            have BF := Lib.hid (below3 BV.out b4)
            have HS4 := Lib.hid (decide_eq_true hp4 ▸ psame_any A4 _ a4.length c4 n c a4 l w4 o4.tms (HX.out.below BF.out) (by rw [hp4.length_eq]; have := HOK.out.few; omega) (by omega))
            clear s4 o4 b4 hp4 q0 q1 lq K1 BV
            go_wp2_with fail
            refine HS4.out.mono ?_
            rintro e w5 ⟨rfl, b5⟩
            have BG := Lib.hid (below3 BF.out b5)
            clear b5 HS4 BF
            go_wp2_with fail
            go_roundw
            case rel => exact ⟨k + 1, by go_num, by omega, BG⟩
            case measure => simp only [intOf]; omega
          · have hkn' : k = n := by omega
            have HKN := Lib.hid hkn'
            clear hkn'
            go_wp2_with fail
            refine (pleast_any _ n c l _ (HX.out.below BW.out)).mono ?_
            by_cases h0 : n = 0
            · have HL : leastR l = (5, (0, 0)) := by rw [leastR, if_pos HOK.out, if_pos (by rw [LX.out]; exact h0)]
              rw [HL]
              rintro e w4 ⟨rfl, b4⟩
              have BF := Lib.hid (below3 BW.out (b4.trans (((Below.refl w4.heap.size w4).alloc (Nat.le_refl _) (.cells #[.int .i64 0, .int .i64 0] 24)).mono b4.size)))
              have t1 : ((n : Int) == 0) = true := by simpa using h0
              have HH := Lib.hid h0
              clear b4 HL h0
              go_wp2_with fail
              go_ret
              exact ⟨rfl, BF.out⟩
            · obtain ⟨y1, y2, hy⟩ : ∃ y1 y2, ith l 0 = (y1, y2) := ⟨_, _, rfl⟩
              have HL : leastR l = (0, (y1, y2)) := by rw [leastR, if_pos HOK.out, if_neg (by rw [LX.out]; exact h0), least_first HOK.out (fun q => h0 (by rw [← LX.out, q]; rfl)), hy]
              rw [HL]
              rintro e w4 ⟨rfl, b4⟩
              have B4 := Lib.hid (below3 BW.out b4)
              have HY := Lib.hid hy
              clear b4 HL h0 hy BW
              have k5 := Bk.new w4 24 #[.int .i64 y1, .int .i64 y2]
              have b5 := (Below.refl w4.heap.size w4).alloc (Nat.le_refl _) (.cells #[.int .i64 y1, .int .i64 y2] 24)
              obtain ⟨gv, hgv⟩ : ∃ g, w4.heap.size = g := ⟨_, rfl⟩
              obtain ⟨V, hV⟩ : ∃ V, w4.alloc (.cells #[.int .i64 y1, .int .i64 y2] 24) = V := ⟨_, rfl⟩
              rw [hV] at k5 b5
              rw [hgv] at k5
              have KV := Lib.hid k5
              have BV := Lib.hid (below3 B4.out b5)
              have HV := Lib.hid hV
              have HGV := Lib.hid hgv
              clear hV hgv k5 b5 B4
              go_upto_region 19 with fail
              rw [HV.out]
              try rw [HGV.out]
              clear HV HGV
              have BV0 := Lib.hid (Below.refl V.heap.size V)
              go_wp2_with fail
              go_loopw [104] (fun t wr => ∃ k : Nat, t = .int .i64 (k : Int) ∧ k ≤ n ∧ Hid (Below V.heap.size V wr)) (fun t _ => n - (intOf t).toNat)
              case atStart => exact ⟨0, rfl, Nat.zero_le _, BV0⟩
              case round =>
                clear BV0
                rename World => wr
                obtain ⟨k, rfl, hk, BW⟩ := hrel
                by_cases hkn : k < n
                · obtain ⟨bA, oA, rfl, hbA, c0, c1⟩ := (HX.out.below (below3 BV.out BW.out)).at_ hkn
                  have hkl : k < l.length := by rw [LX.out]; exact hkn
                  obtain ⟨x1, hx1⟩ : ∃ z, jO l k = z := ⟨_, rfl⟩
                  obtain ⟨x2, hx2⟩ : ∃ z, jA l k = z := ⟨_, rfl⟩
                  have hz : ith l k = (x1, x2) := by rw [← hx1, ← hx2]; rfl
                  rw [hx1] at c0
                  rw [hx2] at c1
                  have HNL := Lib.hid (show ¬ lessT (x1, x2) (y1, y2) by
                    have := HOK.out.least k hkl
                    rw [hz, HY.out] at this
                    exact this)
                  have k1 := Bk.new wr 24 #[.int .i64 x1, .int .i64 x2]
                  have b1 := (Below.refl wr.heap.size wr).alloc (Nat.le_refl _) (.cells #[.int .i64 x1, .int .i64 x2] 24)
                  have k2 := (KV.out.below BW.out KV.out.lt).alloc (.cells #[.int .i64 x1, .int .i64 x2] 24)
                  obtain ⟨gu, hgu⟩ : ∃ g, wr.heap.size = g := ⟨_, rfl⟩
                  obtain ⟨U, hU⟩ : ∃ V, wr.alloc (.cells #[.int .i64 x1, .int .i64 x2] 24) = V := ⟨_, rfl⟩
                  rw [hU] at k1 b1 k2
                  rw [hgu] at k1
                  have BU := Lib.hid (below3 BW.out b1)
                  have K1 := Lib.hid k1
                  have K2 := Lib.hid k2
                  have HU := Lib.hid hU
                  have HGU := Lib.hid hgu
                  clear hU hgu k1 k2 b1 hx1 hx2 hz BW
                  go_upto_region 24 with fail
                  rw [HU.out]
                  try rw [HGU.out]
                  clear HU HGU c0 c1 hbA
                  have q0 : _ = some (Value.int .i64 x1) := K1.out.cell 0
                  have q1 : _ = some (Value.int .i64 x2) := K1.out.cell 1
                  have r0 : _ = some (Value.int .i64 y1) := K2.out.cell 0
                  have r1 : _ = some (Value.int .i64 y2) := K2.out.cell 1
                  have lq := K1.out.lt
                  have lr := K2.out.lt
                  go_wp2_with fail
                  refine (less_any x1 x2 y1 y2 _).mono ?_
                  rw [decide_eq_false HNL.out]
                  rintro e w6 ⟨rfl, b6⟩
                  have BG := Lib.hid (below3 BU.out b6)
                  clear b6 q0 q1 r0 r1 lq lr BU K1 K2
                  go_wp2_with fail
                  go_roundw
                  case rel => exact ⟨k + 1, by go_num, by omega, BG⟩
                  case measure => simp only [intOf]; omega
                · have BF := Lib.hid (below3 BV.out BW.out)
                  go_wp2_with fail
                  go_ret
                  exact ⟨rfl, BF.out⟩
    · rw [if_neg hok]
      rintro e w2 ⟨rfl, b2⟩
      have B2 := Lib.hid (below3 B1.out b2)
      clear b2 hok
      go_wp2_with fail
      go_ret
      exact ⟨rfl, B2.out⟩

end Go.Proofs.Ytjamoafihmcmeaa

/-
  Layer 17, the program: the closure of stacked, ContainsFunc over it, stacked.
-/
import Derived.Test.YtmndkofdoclihaaWob
namespace Go.Proofs.Ytmndkofdoclihaa
open Go.RowKit

set_option maxHeartbeats 1000000 in
theorem once_wo (A B : Option Addr) (n a m b : Nat) (is : List Int) (ms : List Bool) (y : Int) (gd gm : Nat) (w : World) (hi : Ints w A n is) (hin0 : is.length = n) (h4 : fours is) (hn : n ≤ 64) (kd : Bk w gd 24 #[.slice A n a, .slice B m b]) (km : BkB w gm 71 ms) (hml : ms.length = 64) :
    Calls Try.prog 54 #[.int .i64 y, .pointer (some ⟨gd, 0, none⟩), .pointer (some ⟨gm, 0, none⟩)] w (fun e w' => e = .returned (.bool (!decide (newWo1 is ms y))) ∧ BkB w' gm 71 (if newWo1 is ms y then ms.set y.toNat true else ms) ∧ w.grownBy w' (some gm)) := by
  obtain ⟨q0, q1⟩ := kd.c2w
  have lq := kd.lt
  have KM := Lib.hid km
  have lm := km.lt
  clear kd
  have HG : Hid (∀ w1, Below w.heap.size w w1 → w.grownBy w1 (some gm)) := Lib.hid fun w1 b1 => ⟨b1.os, b1.tape, b1.output, b1.size, fun k hk _ => b1.block k hk⟩
  by_cases hin : 0 ≤ y ∧ y < n
  · have HQ := isone_wo A B n a m b y w
    rw [decide_eq_true hin] at HQ
    replace HQ := Lib.hid HQ
    obtain ⟨k, rfl⟩ := Int.eq_ofNat_of_zero_le hin.1
    have hkn : k < n := by omega
    have hkl : k < is.length := by omega
    obtain ⟨bb, o, rfl, hb, c0⟩ := hi.at_bt hkn
    have h03 := fours_at h4 hkl
    have m0 := km.at_ (k := k) (by omega)
    obtain ⟨z, hz⟩ : ∃ z, nth is k = z := ⟨_, rfl⟩
    obtain ⟨mk, hmk⟩ : ∃ mk, bth ms k = mk := ⟨_, rfl⟩
    rw [hz] at c0 h03
    rw [hmk] at m0
    have hk64 : k < 64 := by omega
    by_cases h2 : 2 ≤ z
    · cases mk
      · rw [decide_eq_true (show newWo1 is ms (k : Int) from ⟨⟨hin.1, by omega⟩, by rw [Int.toNat_natCast, hz]; exact h2, by rw [Int.toNat_natCast]; exact hmk⟩), if_pos (show newWo1 is ms (k : Int) from ⟨⟨hin.1, by omega⟩, by rw [Int.toNat_natCast, hz]; exact h2, by rw [Int.toNat_natCast]; exact hmk⟩), Int.toNat_natCast]
        have HR := Lib.hid (rests_wo z)
        have hd : decide (z = 2 ∨ z = 3) = true := decide_eq_true (by omega)
        rw [hd] at HR
        have hc : (k : Int) < n := hin.2
        clear hin hi h4 hz hmk h2 hd h03 km
        go_enter Try.func54, Try.ntmps54
        go_wp2_with fail
        refine HQ.out.mono ?_
        rintro e w1 ⟨rfl, b1⟩
        have d0 := (b1.cell (p := ⟨gd, 0, none⟩) lq).trans q0
        have d1 := (b1.cell (p := ⟨gd, 1, none⟩) lq).trans q1
        have dl := Nat.lt_of_lt_of_le lq b1.size
        have e0 := (b1.cell (p := ⟨bb, o + k, none⟩) hb).trans c0
        have el := Nat.lt_of_lt_of_le hb b1.size
        have n0 := (b1.cell (p := ⟨gm, k, none⟩) lm).trans m0
        have nl := Nat.lt_of_lt_of_le lm b1.size
        have KM1 := Lib.hid (KM.out.below b1)
        have G1 := Lib.hid (HG.out _ b1)
        clear b1 q0 q1 lq lm HG c0 hb m0
        have KM2 := Lib.hid (KM1.out.set_ k true)
        have G2 := Lib.hid (G1.out.trans (grown_set (w := w1) (g := gm) (i := k) (.bool true)))
        have fz := KM1.out.frozen k
        go_wp2_with fail
        refine (HR.out _).mono ?_
        rintro e w2 ⟨rfl, rfl⟩
        go_wp2_with fail
        go_ret
        exact ⟨rfl, KM2.out, G2.out⟩
      · rw [decide_eq_false (show ¬ newWo1 is ms (k : Int) from fun q => by have := q.2.2; rw [Int.toNat_natCast, hmk] at this; cases this), if_neg (show ¬ newWo1 is ms (k : Int) from fun q => by have := q.2.2; rw [Int.toNat_natCast, hmk] at this; cases this)]
        have HR := Lib.hid (rests_wo z)
        have hd : decide (z = 2 ∨ z = 3) = true := decide_eq_true (by omega)
        rw [hd] at HR
        have hc : (k : Int) < n := hin.2
        clear hin hi h4 hz hmk h2 hd h03 km
        go_enter Try.func54, Try.ntmps54
        go_wp2_with fail
        refine HQ.out.mono ?_
        rintro e w1 ⟨rfl, b1⟩
        have d0 := (b1.cell (p := ⟨gd, 0, none⟩) lq).trans q0
        have d1 := (b1.cell (p := ⟨gd, 1, none⟩) lq).trans q1
        have dl := Nat.lt_of_lt_of_le lq b1.size
        have e0 := (b1.cell (p := ⟨bb, o + k, none⟩) hb).trans c0
        have el := Nat.lt_of_lt_of_le hb b1.size
        have n0 := (b1.cell (p := ⟨gm, k, none⟩) lm).trans m0
        have nl := Nat.lt_of_lt_of_le lm b1.size
        have KM1 := Lib.hid (KM.out.below b1)
        have G1 := Lib.hid (HG.out _ b1)
        clear b1 q0 q1 lq lm HG c0 hb m0
        go_wp2_with fail
        refine (HR.out _).mono ?_
        rintro e w2 ⟨rfl, rfl⟩
        go_wp2_with fail
        go_ret
        exact ⟨rfl, KM1.out, G1.out⟩
    · rw [decide_eq_false (show ¬ newWo1 is ms (k : Int) from fun q => h2 (by have := q.2.1; rw [Int.toNat_natCast, hz] at this; exact this)), if_neg (show ¬ newWo1 is ms (k : Int) from fun q => h2 (by have := q.2.1; rw [Int.toNat_natCast, hz] at this; exact this))]
      have HR := Lib.hid (rests_wo z)
      have hd : decide (z = 2 ∨ z = 3) = false := decide_eq_false (by omega)
      rw [hd] at HR
      have hc : (k : Int) < n := hin.2
      clear hin hi h4 hz hmk h2 hd h03 km
      go_enter Try.func54, Try.ntmps54
      go_wp2_with fail
      refine HQ.out.mono ?_
      rintro e w1 ⟨rfl, b1⟩
      have d0 := (b1.cell (p := ⟨gd, 0, none⟩) lq).trans q0
      have d1 := (b1.cell (p := ⟨gd, 1, none⟩) lq).trans q1
      have dl := Nat.lt_of_lt_of_le lq b1.size
      have e0 := (b1.cell (p := ⟨bb, o + k, none⟩) hb).trans c0
      have el := Nat.lt_of_lt_of_le hb b1.size
      have n0 := (b1.cell (p := ⟨gm, k, none⟩) lm).trans m0
      have nl := Nat.lt_of_lt_of_le lm b1.size
      have KM1 := Lib.hid (KM.out.below b1)
      have G1 := Lib.hid (HG.out _ b1)
      clear b1 q0 q1 lq lm HG c0 hb m0
      go_wp2_with fail
      refine (HR.out _).mono ?_
      rintro e w2 ⟨rfl, rfl⟩
      go_wp2_with fail
      go_ret
      exact ⟨rfl, KM1.out, G1.out⟩
  · rw [decide_eq_false (show ¬ newWo1 is ms y from fun q => hin ⟨q.1.1, by have := q.1.2; omega⟩), if_neg (show ¬ newWo1 is ms y from fun q => hin ⟨q.1.1, by have := q.1.2; omega⟩)]
    have HQ := isone_wo A B n a m b y w
    rw [decide_eq_false hin] at HQ
    replace HQ := Lib.hid HQ
    clear hin km
    go_enter Try.func54, Try.ntmps54
    go_wp2_with fail
    refine HQ.out.mono ?_
    rintro e w1 ⟨rfl, b1⟩
    have KM1 := Lib.hid (KM.out.below b1)
    have G1 := Lib.hid (HG.out _ b1)
    clear b1 q0 q1 lq lm HG
    go_wp2_with fail
    go_ret
    exact ⟨rfl, KM1.out, G1.out⟩

set_option maxHeartbeats 1000000 in
theorem idxonce_wo (A B : Option Addr) (n a m b : Nat) (is st : List Int) (gd gm base : Nat) (w : World) (hI : ∀ U, Below base w U → Ints U A n is) (hS : ∀ U, Below base w U → Ints U B m st) (h4 : fours is) (hn : n ≤ 64)
    (kd : Bk w gd 24 #[.slice A n a, .slice B m b]) (km : BkB w gm 71 (marksW [])) (hne : gd ≠ gm) (hb1 : base ≤ w.heap.size) (hb2 : base ≤ gm) :
    Calls Try.prog 53 #[.slice B m b, .func (.func 54) #[] #[.pointer (some ⟨gd, 0, none⟩), .pointer (some ⟨gm, 0, none⟩)]] w
      (fun e w' => ∃ r : Int, e = .returned (.int .i64 r) ∧ (0 ≤ r ∧ ¬ goodWo is st st.length ∨ r = -1 ∧ goodWo is st st.length) ∧ Below base w w') := by
  have s0 := hS w (Below.refl _ _)
  have LX := Lib.hid s0.1
  have LI := Lib.hid (hI w (Below.refl _ _)).1
  have hnc := s0.2.1
  have HI := Lib.hid hI
  have HS := Lib.hid hS
  have H4 := Lib.hid h4
  have HN := Lib.hid hn
  have HNE := Lib.hid hne
  have HB1 := Lib.hid hb1
  have HB2 := Lib.hid hb2
  have KD := Lib.hid kd
  have KM := Lib.hid km
  clear hI hS h4 hn hne hb1 hb2 kd km s0
  go_enter Try.func53, Try.ntmps53
  go_wp2_with fail
  go_loopw [8] (fun t wr => ∃ k : Nat, k ≤ m ∧ t = .int .i64 k ∧ Hid (w.grownBy wr (some gm) ∧ BkB wr gm 71 (marksW (st.take k)) ∧ goodWo is st k)) (fun t _ => m - (intOf t).toNat)
  case atStart => exact ⟨0, Nat.zero_le _, rfl, Lib.hid ⟨⟨rfl, rfl, rfl, Nat.le_refl _, fun k _ _ => rfl⟩, by simpa using KM.out, fun j hj => by omega⟩⟩
  case round =>
    rename World => wr
    obtain ⟨k, hk, rfl, OK⟩ := hrel
    have BW : Hid (Below base w wr) := Lib.hid ((Below.refl base w).grown OK.out.1 HB1.out (by intro j hj; injection hj with hj; subst hj; exact HB2.out))
    by_cases hkm : k < m
    · obtain ⟨bS, o, rfl, hb, c0⟩ := (HS.out _ BW.out).at_bt hkm
      have hkl : k < st.length := by rw [LX.out]; exact hkm
      obtain ⟨z1, hz⟩ : ∃ z1, nth st k = z1 := ⟨_, rfl⟩
      rw [hz] at c0
      have HZ := Lib.hid hz
      have HQ := Lib.hid (once_wo A (some ⟨bS, o, none⟩) n a m b is (marksW (st.take k)) z1 gd gm wr (HI.out _ BW.out) LI.out H4.out HN.out (KD.out.grown OK.out.1 (by intro q; injection q with q; exact HNE.out q)) OK.out.2.1 (marksW_len _))
      clear hz
      go_wp2_with fail
      refine HQ.out.mono ?_
      by_cases he : newWo1 is (marksW (st.take k)) z1
      · rw [decide_eq_true he, if_pos he]
        rintro e w1 ⟨rfl, km1, g1⟩
        have OK2 : Hid (w.grownBy w1 (some gm) ∧ BkB w1 gm 71 (marksW (st.take (k + 1))) ∧ goodWo is st (k + 1)) := Lib.hid ⟨OK.out.1.trans g1, by
          rw [marksW_set, show ((z1.toNat : Nat) : Int) = z1 by have := he.1; omega] at km1
          rw [take_nextBt hkl, HZ.out]
          exact km1, good_next (by rw [LI.out]; exact HN.out) OK.out.2.2 (by rw [HZ.out]; exact he)⟩
        clear he OK km1 g1 BW
        go_wp2_with fail
        go_roundw
        case rel => exact ⟨k + 1, by omega, by go_num, OK2⟩
        case measure => simp [intOf]; omega
      · rw [decide_eq_false he, if_neg he]
        rintro e w1 ⟨rfl, km1, g1⟩
        have HH : Hid (¬ goodWo is st st.length ∧ Below base w w1) := Lib.hid ⟨good_stop (by rw [LI.out]; exact HN.out) hkl (by rw [HZ.out]; exact he), (Below.refl base w).grown (OK.out.1.trans g1) HB1.out (by intro j hj; injection hj with hj; subst hj; exact HB2.out)⟩
        clear he km1 g1
        go_wp2_with fail
        go_ret
        exact ⟨k, rfl, .inl ⟨by omega, HH.out.1⟩, HH.out.2⟩
    · have HH : Hid (goodWo is st st.length) := Lib.hid (by rw [LX.out, show m = k by omega]; exact OK.out.2.2)
      go_wp2_with fail
      go_ret
      exact ⟨-1, rfl, .inr ⟨rfl, HH.out⟩, BW.out⟩

theorem anyonce_wo (A B : Option Addr) (n a m b : Nat) (is st : List Int) (gd gm base : Nat) (w : World) (hI : ∀ U, Below base w U → Ints U A n is) (hS : ∀ U, Below base w U → Ints U B m st) (h4 : fours is) (hn : n ≤ 64)
    (kd : Bk w gd 24 #[.slice A n a, .slice B m b]) (km : BkB w gm 71 (marksW [])) (hne : gd ≠ gm) (hb1 : base ≤ w.heap.size) (hb2 : base ≤ gm) (hl : st.length = manyWo is 2 + manyWo is 3) :
    Calls Try.prog 48 #[.slice B m b, .func (.func 54) #[] #[.pointer (some ⟨gd, 0, none⟩), .pointer (some ⟨gm, 0, none⟩)]] w
      (fun e w' => e = .returned (.bool (!decide (onceWo is st))) ∧ Below base w w') := by
  have HQ := Lib.hid (idxonce_wo A B n a m b is st gd gm base w hI hS h4 hn kd km hne hb1 hb2)
  have HO := Lib.hid (good_once h4 hl)
  clear hI hS h4 hn kd km hne hb1 hb2 hl
  go_enter Try.func48, Try.ntmps48
  go_wp2_with fail
  refine HQ.out.mono ?_
  rintro e w1 ⟨r, rfl, hat, b1⟩
  have HB := Lib.hid b1
  have HA : Hid (decide (0 ≤ r) = !decide (onceWo is st)) := Lib.hid (by
    rcases hat with ⟨h1, h2⟩ | ⟨rfl, h2⟩
    · rw [decide_eq_true h1, decide_eq_false (fun q => h2 (HO.out.2 q))]; rfl
    · rw [decide_eq_true (HO.out.1 h2)]; rfl)
  clear hat b1
  go_wp2_with fail
  go_ret
  exact ⟨by simp; exact HA.out, HB.out⟩

theorem zero64 : (marksW [] |>.map fun x => Value.bool x).toArray = #[.bool false, .bool false, .bool false, .bool false, .bool false, .bool false, .bool false, .bool false, .bool false, .bool false, .bool false, .bool false, .bool false, .bool false, .bool false, .bool false, .bool false, .bool false, .bool false, .bool false, .bool false, .bool false, .bool false, .bool false, .bool false, .bool false, .bool false, .bool false, .bool false, .bool false, .bool false, .bool false, .bool false, .bool false, .bool false, .bool false, .bool false, .bool false, .bool false, .bool false, .bool false, .bool false, .bool false, .bool false, .bool false, .bool false, .bool false, .bool false, .bool false, .bool false, .bool false, .bool false, .bool false, .bool false, .bool false, .bool false, .bool false, .bool false, .bool false, .bool false, .bool false, .bool false, .bool false, .bool false] := by kernel_rfl
theorem b2_wo {B : Nat} {w w1 w2 : World} (h1 : Below B w w1) (h2 : Below B w1 w2) : Below B w w2 := h1.trans h2

set_option maxHeartbeats 1000000 in
theorem stacked_wo (A B : Option Addr) (n a m b : Nat) (is st : List Int) (w : World) (hi : Ints w A n is) (hs : Ints w B m st) (h4 : fours is) (hn : n ≤ 64) :
    Calls Try.prog 49 #[.agg #[.int .i64 (manyWo is 0 : Int), .int .i64 (manyWo is 1 : Int), .int .i64 (manyWo is 2 : Int), .int .i64 (manyWo is 3 : Int)], .agg #[.slice A n a, .slice B m b]] w (RetB (.bool (decide (st.length = manyWo is 2 + manyWo is 3 ∧ onceWo is st))) w) := by
  have hal := many_all h4
  have hil := hi.1
  have hsl := hs.1
  have hm0 := hs.2.1
  obtain ⟨c0, h0⟩ : ∃ c : Nat, manyWo is 0 = c := ⟨_, rfl⟩
  obtain ⟨c1, h1⟩ : ∃ c : Nat, manyWo is 1 = c := ⟨_, rfl⟩
  obtain ⟨c2, h2⟩ : ∃ c : Nat, manyWo is 2 = c := ⟨_, rfl⟩
  obtain ⟨c3, h3⟩ : ∃ c : Nat, manyWo is 3 = c := ⟨_, rfl⟩
  rw [h0, h1, h2, h3] at hal ⊢
  have e1 : IntKind.i64.wrap ((c2 : Int) + (c3 : Int)) = (c2 : Int) + c3 := by rw [IntKind.wrap_i64]; omega
  obtain ⟨k0, k1, bb⟩ := lies2 w #[.int .i64 (c0 : Int), .int .i64 (c1 : Int), .int .i64 (c2 : Int), .int .i64 (c3 : Int)] #[.slice A n a, .slice B m b] 46 24
  obtain ⟨V, hV⟩ : ∃ V, (w.alloc (.cells #[.int .i64 (c0 : Int), .int .i64 (c1 : Int), .int .i64 (c2 : Int), .int .i64 (c3 : Int)] 46)).alloc (.cells #[.slice A n a, .slice B m b] 24) = V := ⟨_, rfl⟩
  rw [hV] at k0 k1 bb
  have HV := Lib.hid hV
  clear hV
  obtain ⟨q0, q1, q2, q3⟩ := k0.c4w
  obtain ⟨r0, r1⟩ := k1.c2w
  have l0 := k0.lt
  have l1 := k1.lt
  have BB := Lib.hid bb
  have K1 := Lib.hid k1
  clear k0 k1 bb
  by_cases hc : m = c2 + c3
  · obtain ⟨ans, ha⟩ : ∃ x, decide (onceWo is st) = x := ⟨_, rfl⟩
    have HD : Hid (decide (st.length = c2 + c3 ∧ onceWo is st) = ans) := Lib.hid (by rw [← ha]; exact decide_eq_decide.2 ⟨fun q => q.2, fun q => ⟨by omega, q⟩⟩)
    rw [HD.out]
    have t0 : ((m : Int) == (c2 : Int) + (c3 : Int)) = true := by simp; omega
    have h6 := Bk.new V 71 (marksW [] |>.map fun x => Value.bool x).toArray
    have b6 := (Below.refl V.heap.size V).alloc (Nat.le_refl _) (.cells (marksW [] |>.map fun x => Value.bool x).toArray 71)
    have HQ := Lib.hid (anyonce_wo A B n a m b is st (w.heap.size + 1) V.heap.size w.heap.size (V.alloc (.cells (marksW [] |>.map fun x => Value.bool x).toArray 71)) (fun U hU => hi.below (BB.out.alloc BB.out.size _ |>.trans hU)) (fun U hU => hs.below (BB.out.alloc BB.out.size _ |>.trans hU)) h4 (by omega) (K1.out.alloc _) h6 (Nat.ne_of_lt l1) (Nat.le_trans BB.out.size b6.size) BB.out.size (by omega))
    rw [ha] at HQ
    have B2 := Lib.hid (BB.out.alloc BB.out.size (.cells (marksW [] |>.map fun x => Value.bool x).toArray 71))
    have r0a := (b6.cell (p := ⟨w.heap.size + 1, 0, none⟩) l1).trans r0
    have r1a := (b6.cell (p := ⟨w.heap.size + 1, 1, none⟩) l1).trans r1
    have l1a := Nat.lt_of_lt_of_le l1 b6.size
    obtain ⟨W, hW⟩ : ∃ W, V.alloc (.cells (marksW [] |>.map fun x => Value.bool x).toArray 71) = W := ⟨_, rfl⟩
    rw [hW] at HQ B2 r0a r1a l1a
    rw [zero64] at hW
    have HW := Lib.hid hW
    obtain ⟨g, hg⟩ : ∃ g, V.heap.size = g := ⟨_, rfl⟩
    rw [hg] at HQ
    have HG := Lib.hid hg
    clear hW hg h6 b6 hc hal hil hsl hi hs h4 h0 h1 h2 h3 ha HD
    go_enter Try.func49, Try.ntmps49
    go_upto_region 1 with fail
    rw [HV.out]
    clear HV
    go_upto_region 4 with fail
    rw [HW.out, HG.out]
    clear HW HG q0 q1 q2 q3 r0 r1 l0 l1 K1 BB
    go_wp2_with fail
    refine HQ.out.mono ?_
    rintro e w1 ⟨rfl, b1⟩
    have B3 := Lib.hid (b2_wo B2.out b1)
    clear b1 HQ B2
    go_wp2_with fail
    go_ret
    exact ⟨by simp, B3.out⟩
  · rw [decide_eq_false (show ¬ (st.length = c2 + c3 ∧ onceWo is st) from fun q => hc (by omega))]
    have t0 : ((m : Int) == (c2 : Int) + (c3 : Int)) = false := by simp; omega
    clear hc hal hil hsl hi hs h4 h0 h1 h2 h3
    go_enter Try.func49, Try.ntmps49
    go_upto_region 1 with fail
    rw [HV.out]
    clear HV
    go_wp2_with fail
    go_ret
    exact ⟨rfl, BB.out⟩

end Go.Proofs.Ytmndkofdoclihaa

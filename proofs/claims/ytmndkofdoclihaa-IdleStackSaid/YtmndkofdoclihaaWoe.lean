/-
  Layer 17, the document: many, Fits, Check, Count, in, without.
-/
import Derived.Test.YtmndkofdoclihaaWod
namespace Go.Proofs.Ytmndkofdoclihaa
open Go.RowKit

set_option maxHeartbeats 1000000 in
theorem many_wo (A : Option Addr) (n c : Nat) (l : List Int) (x : Int) (w : World) (hx : Ints w A n l) :
    Calls Try.prog 37 #[.slice A n c, .int .i64 x] w (fun e w' => e = .returned (.int .i64 (manyWo l x : Int)) ∧ w' = w) := by
  have HX := Lib.hid hx
  have LX := Lib.hid hx.1
  have hnc := hx.2.1
  clear hx
  go_enter Try.func37, Try.ntmps37
  go_wp2_with fail
  go_loopw [5, 10] (fun u t wr => ∃ k : Nat, k ≤ n ∧ t = .int .i64 k ∧ u = .int .i64 (manyWo (l.take k) x : Int) ∧ w = wr) (fun _ t _ => n - (intOf t).toNat)
  case atStart => exact ⟨0, Nat.zero_le _, rfl, rfl, rfl⟩
  case round =>
    obtain ⟨k, hk, rfl, rfl, rfl⟩ := hrel
    by_cases hkn : k < n
    · obtain ⟨b, o, rfl, hb, c0⟩ := HX.out.at_bt hkn
      have hkl : k < l.length := by rw [LX.out]; exact hkn
      have hnx := many_next hkl x
      have hle := many_take_le l k x
      obtain ⟨z, hz⟩ : ∃ z, nth l k = z := ⟨_, rfl⟩
      rw [hz] at c0 hnx
      obtain ⟨v, hv⟩ : ∃ v, manyWo (l.take k) x = v := ⟨_, rfl⟩
      rw [hv] at hnx hle ⊢
      have e1 : IntKind.i64.wrap ((v : Int) + 1) = (v : Int) + 1 := by rw [IntKind.wrap_i64]; omega
      by_cases he : z = x
      · rw [if_pos he] at hnx
        have t0 : (z == x) = true := by simpa using he
        have HN := Lib.hid hnx
        clear he hz hv hnx
        go_wp2_with fail
        go_roundw
        case rel => exact ⟨k + 1, by omega, by go_num, by rw [HN.out]; go_num, by first | rfl | trivial⟩
        case measure => simp [intOf]; omega
      · rw [if_neg he] at hnx
        have t0 : (z == x) = false := by simpa using he
        have HN := Lib.hid hnx
        clear he hz hv hnx
        go_wp2_with fail
        go_roundw
        case rel => exact ⟨k + 1, by omega, by go_num, by rw [HN.out]; rfl, by first | rfl | trivial⟩
        case measure => simp [intOf]; omega
    · have HE : Hid (manyWo (l.take k) x = manyWo l x) := Lib.hid (by rw [List.take_of_length_le (by have := LX.out; omega)])
      go_wp2_with fail
      go_ret
      exact ⟨by rw [HE.out]; rfl, rfl⟩

set_option maxHeartbeats 1000000 in
theorem fits_wo (A : Option Addr) (n c : Nat) (is : List Int) (w : World) (hn : n ≤ 64) (hx : Ints w A n is) :
    Calls Try.prog 33 #[.slice A n c] w (fun e w' => e = .returned (.bool (decide (fitsWo is))) ∧ w' = w) := by
  have h1 := many_le is 1
  have h3 := many_le is 3
  have hil := hx.1
  have H1 := Lib.hid (many_wo A n c is 1 w hx)
  have H3 := Lib.hid (many_wo A n c is 3 w hx)
  have HD : Hid (decide (2 * (manyWo is 1 : Int) ≤ (n : Int) - (manyWo is 3 : Int) + 1) = decide (fitsWo is)) := Lib.hid (decide_eq_decide.2 (by unfold fitsWo; omega))
  obtain ⟨c1, e1⟩ : ∃ c, manyWo is 1 = c := ⟨_, rfl⟩
  obtain ⟨c3, e3⟩ : ∃ c, manyWo is 3 = c := ⟨_, rfl⟩
  rw [e1, e3] at HD
  rw [e1] at h1 H1
  rw [e3] at h3 H3
  have w1 : IntKind.i64.wrap (2 * (c1 : Int)) = 2 * (c1 : Int) := by rw [IntKind.wrap_i64]; omega
  have w2 : IntKind.i64.wrap ((n : Int) - (c3 : Int)) = (n : Int) - (c3 : Int) := by rw [IntKind.wrap_i64]; omega
  have w3 : IntKind.i64.wrap ((n : Int) - (c3 : Int) + 1) = (n : Int) - (c3 : Int) + 1 := by rw [IntKind.wrap_i64]; omega
  obtain ⟨v, hv⟩ : ∃ v, decide (fitsWo is) = v := ⟨_, rfl⟩
  rw [hv] at HD ⊢
  clear hv e1 e3 hx
  go_enter Try.func33, Try.ntmps33
  go_wp2_with fail
  refine H1.out.mono ?_
  rintro e w1 ⟨rfl, rfl⟩
  go_wp2_with fail
  refine H3.out.mono ?_
  rintro e w2 ⟨rfl, rfl⟩
  go_wp2_with fail
  go_ret
  exact ⟨by simp; exact HD.out, rfl⟩

theorem Ints.drewN {w : World} {A : Option Addr} {n : Nat} {l : List Int} (h : Ints w A n l) (j : Nat) : Ints (w.drewN j) A n l := h.below (below_drewN (Below.refl _ _) j)
set_option maxHeartbeats 4000000 in
theorem rcheck_wo (A B : Option Addr) (n a m b : Nat) (is st : List Int) (w : World) (hi : Ints w A n is) (hs : Ints w B m st) :
    Calls Try.prog 25 #[.agg #[.slice A n a, .slice B m b]] w (RetB (.int .i64 (chkWo is st)) w) := by
  obtain ⟨kd, bb⟩ := lay1 w #[.slice A n a, .slice B m b] 24
  obtain ⟨V, hV⟩ : ∃ V, w.alloc (.cells #[.slice A n a, .slice B m b] 24) = V := ⟨_, rfl⟩
  rw [hV] at kd bb
  have HV := Lib.hid hV
  have BB := Lib.hid bb
  obtain ⟨q0, q1⟩ := kd.c2w
  have lq := kd.lt
  have hiV := hi.below bb
  have hsV := hs.below bb
  have hn0 := hi.2.1
  have hm0 := hs.2.1
  have hil := hi.1
  have hsl := hs.1
  clear hV kd bb
  by_cases g0 : (n : Int) < 1
  · rw [show chkWo is st = 1 from if_neg (fun q => by have := q.1; omega)]
    replace g0 := decide_eq_true g0
    clear hi hs hiV hsV
    go_enter Try.func25, Try.ntmps25
    go_upto_region 1 with fail
    rw [HV.out]
    clear HV
    go_wp2
    go_quiet (fail)
    go_wp2
    go_ret
    exact RetB.of rfl (below_drewN BB.out _)
  · by_cases g1 : 64 < (n : Int)
    · rw [show chkWo is st = 1 from if_neg (fun q => by have := q.1; omega)]
      replace g0 := decide_eq_false g0
      replace g1 := decide_eq_true g1
      clear hi hs hiV hsV
      go_enter Try.func25, Try.ntmps25
      go_upto_region 1 with fail
      rw [HV.out]
      clear HV
      go_wp2
      go_quiet (fail)
      go_wp2
      go_ret
      exact RetB.of rfl (below_drewN BB.out _)
    · by_cases hf : fitsWo is
      · have HF := Lib.hid fun j => fits_wo A n a is (V.drewN j) (by omega) (hiV.drewN j)
        rw [decide_eq_true hf] at HF
        have H2 := Lib.hid fun j x => many_wo A n a is x (V.drewN j) (hiV.drewN j)
        have h2 := many_le is 2
        have h3 := many_le is 3
        have w2 : IntKind.i64.wrap ((manyWo is 2 : Int) + (manyWo is 3 : Int)) = (manyWo is 2 : Int) + (manyWo is 3 : Int) := by rw [IntKind.wrap_i64]; omega
        have hft := hf
        clear hf
        by_cases hc : m = manyWo is 2 + manyWo is 3
        · have t0 : ((m : Int) != (manyWo is 2 : Int) + (manyWo is 3 : Int)) = false := by simp; omega
          have HC : Hid (st.length = manyWo is 2 + manyWo is 3) := Lib.hid (by omega)
          have HI := Lib.hid hi
          have HS := Lib.hid hs
          have HIL := Lib.hid hil
          have HSL := Lib.hid hsl
          have HFT := Lib.hid hft
          have hn64 : n ≤ 64 := by omega
          have hn1 : 1 ≤ n := by omega
          replace g0 := decide_eq_false g0
          replace g1 := decide_eq_false g1
          clear hc hil hsl hft hi hs hiV hsV
          go_enter Try.func25, Try.ntmps25
          go_upto_region 1 with fail
          rw [HV.out]
          clear HV
          go_wp2
          go_quiet (first | (go_at_call 33; exact Calls.quiet_of_same (HF.out _)) | (go_at_call 37; exact Calls.quiet_of_same (H2.out _ _)))
          go_wp2
          go_loopw [37] (fun t wr => ∃ k : Nat, k ≤ n ∧ t = .int .i64 k ∧ Below w.heap.size w wr ∧ wr.cell? ⟨w.heap.size, 0, none⟩ = some (.slice A n a) ∧ wr.cell? ⟨w.heap.size, 1, none⟩ = some (.slice B m b) ∧ w.heap.size < wr.heap.size ∧ Hid (∀ j, j < k → (0 ≤ nth is j ∧ nth is j ≤ 3) ∧ (2 ≤ nth is j → manyWo st j = 1))) (fun t _ => n - (intOf t).toNat)
          case atStart => exact ⟨0, Nat.zero_le _, rfl, below_drewN BB.out _, q0, q1, lq, Lib.hid fun j hj => by omega⟩
          case round =>
            clear BB q0 q1 lq
            rename World => wr
            obtain ⟨k, hk, rfl, bw, q0, q1, lq, OK⟩ := hrel
            have BB := Lib.hid bw
            clear bw
            by_cases hkn : k < n
            · obtain ⟨bS, o, rfl, hb, c0⟩ := (HI.out.below BB.out).at_bt hkn
              have HM := Lib.hid (many_wo B m b st (k : Int) wr (HS.out.below BB.out))
              have hml := many_le st (k : Int)
              obtain ⟨z, hz⟩ : ∃ z, nth is k = z := ⟨_, rfl⟩
              obtain ⟨v, hv⟩ : ∃ v, manyWo st (k : Int) = v := ⟨_, rfl⟩
              rw [hz] at c0
              rw [hv] at HM
              have HZ := Lib.hid hz
              have HVV := Lib.hid hv
              clear hz hv
              have HKL : Hid (k < is.length) := Lib.hid (by rw [HIL.out]; exact hkn)
              by_cases h0 : z < 0
              · have HE : Hid (chkWo is st = 1) := Lib.hid (if_neg (fun q => by have := fours_at q.2.1 HKL.out; rw [HZ.out] at this; omega))
                replace h0 := decide_eq_true h0
                go_wp2_with fail
                go_ret
                exact ⟨by rw [HE.out]; rfl, BB.out⟩
              · by_cases h1 : 3 < z
                · have HE : Hid (chkWo is st = 1) := Lib.hid (if_neg (fun q => by have := fours_at q.2.1 HKL.out; rw [HZ.out] at this; omega))
                  replace h0 := decide_eq_false h0
                  replace h1 := decide_eq_true h1
                  go_wp2_with fail
                  go_ret
                  exact ⟨by rw [HE.out]; rfl, BB.out⟩
                · by_cases h2 : 2 ≤ z
                  · by_cases h3 : v = 1
                    · have OK2 : Hid (∀ j, j < k + 1 → (0 ≤ nth is j ∧ nth is j ≤ 3) ∧ (2 ≤ nth is j → manyWo st j = 1)) := Lib.hid fun j hj => by
                        by_cases e : j = k
                        · subst e; rw [HZ.out, HVV.out]; exact ⟨by omega, fun _ => by omega⟩
                        · exact OK.out j (by omega)
                      have t1 : ((v : Int) == 1) = true := by simp; omega
                      replace h0 := decide_eq_false h0
                      replace h1 := decide_eq_false h1
                      replace h2 := decide_eq_true h2
                      clear OK h3
                      go_wp2_with fail
                      refine HM.out.mono ?_
                      rintro e w2 ⟨rfl, hw⟩
                      have hw2 := hw.symm
                      subst hw2
                      clear hw
                      go_wp2_with fail
                      go_roundw
                      case rel => exact ⟨k + 1, by omega, by go_num, BB.out, q0, q1, lq, OK2⟩
                      case measure => simp [intOf]; omega
                    · have HE : Hid (chkWo is st = 1) := Lib.hid (if_neg (fun q => by have := q.2.2.2.2 k HKL.out (by rw [HZ.out]; exact h2); rw [HVV.out] at this; exact h3 this))
                      have t1 : ((v : Int) == 1) = false := by simp; omega
                      replace h0 := decide_eq_false h0
                      replace h1 := decide_eq_false h1
                      replace h2 := decide_eq_true h2
                      clear OK h3
                      go_wp2_with fail
                      refine HM.out.mono ?_
                      rintro e w2 ⟨rfl, hw⟩
                      have hw2 := hw.symm
                      subst hw2
                      clear hw
                      go_wp2_with fail
                      go_ret
                      exact ⟨by rw [HE.out]; rfl, BB.out⟩
                  · have OK2 : Hid (∀ j, j < k + 1 → (0 ≤ nth is j ∧ nth is j ≤ 3) ∧ (2 ≤ nth is j → manyWo st j = 1)) := Lib.hid fun j hj => by
                      by_cases e : j = k
                      · subst e; rw [HZ.out, HVV.out]; exact ⟨by omega, fun q => absurd q h2⟩
                      · exact OK.out j (by omega)
                    replace h0 := decide_eq_false h0
                    replace h1 := decide_eq_false h1
                    replace h2 := decide_eq_false h2
                    clear OK
                    go_wp2_with fail
                    go_roundw
                    case rel => exact ⟨k + 1, by omega, by go_num, BB.out, q0, q1, lq, OK2⟩
                    case measure => simp [intOf]; omega
            · have HE : Hid (chkWo is st = 0) := Lib.hid (if_pos ⟨by have := HIL.out; omega, fours_of fun j hj => (OK.out j (by have := HIL.out; omega)).1, HFT.out, HC.out, fun j hj h2 => (OK.out j (by have := HIL.out; omega)).2 h2⟩)
              go_wp2_with fail
              go_ret
              exact ⟨by rw [HE.out]; rfl, BB.out⟩
        · rw [show chkWo is st = 1 from if_neg (fun q => hc (by have := q.2.2.2.1; omega))]
          have t0 : ((m : Int) == (manyWo is 2 : Int) + (manyWo is 3 : Int)) = false := by simp; omega
          replace g0 := decide_eq_false g0
          replace g1 := decide_eq_false g1
          clear hc hi hs hiV hsV
          go_enter Try.func25, Try.ntmps25
          go_upto_region 1 with fail
          rw [HV.out]
          clear HV
          go_wp2
          go_quiet (first | (go_at_call 33; exact Calls.quiet_of_same (HF.out _)) | (go_at_call 37; exact Calls.quiet_of_same (H2.out _ _)))
          go_wp2
          go_ret
          exact RetB.of rfl (below_drewN BB.out _)
      · rw [show chkWo is st = 1 from if_neg (fun q => hf q.2.2.1)]
        have HF := Lib.hid fun j => fits_wo A n a is (V.drewN j) (by omega) (hiV.drewN j)
        rw [decide_eq_false hf] at HF
        replace g0 := decide_eq_false g0
        replace g1 := decide_eq_false g1
        clear hi hs hiV hsV hf
        go_enter Try.func25, Try.ntmps25
        go_upto_region 1 with fail
        rw [HV.out]
        clear HV
        go_wp2
        go_quiet ((go_at_call 33; exact Calls.quiet_of_same (HF.out _)))
        go_wp2
        go_ret
        exact RetB.of rfl (below_drewN BB.out _)

set_option maxHeartbeats 1000000 in
theorem in_wo (A B : Option Addr) (n a m b : Nat) (is st : List Int) (i : Int) (w : World) (hi : Ints w A n is) (hs : Ints w B m st) :
    Calls Try.prog 31 #[.agg #[.slice A n a, .slice B m b], .int .i64 i] w (RetB (.bool (decide (inWo is st i))) w) := by
  obtain ⟨kd, bb⟩ := lay1 w #[.slice A n a, .slice B m b] 24
  obtain ⟨V, hV⟩ : ∃ V, w.alloc (.cells #[.slice A n a, .slice B m b] 24) = V := ⟨_, rfl⟩
  rw [hV] at kd bb
  have HV := Lib.hid hV
  have BB := Lib.hid bb
  obtain ⟨q0, q1⟩ := kd.c2w
  have lq := kd.lt
  have hil := hi.1
  have HQ := rcheck_wo A B n a m b is st V (hi.below bb) (hs.below bb)
  clear hV kd bb hi hs
  by_cases hok : okWo is st
  · by_cases h0 : 0 ≤ i
    · by_cases h1 : i < n
      · rw [decide_eq_true (show inWo is st i from ⟨hok, h0, by omega⟩)]
        rw [show chkWo is st = 0 from if_pos hok] at HQ
        replace HQ := Lib.hid HQ
        replace h0 := decide_eq_true h0
        replace h1 := decide_eq_true h1
        clear hok
        go_enter Try.func31, Try.ntmps31
        go_upto_region 1 with fail
        rw [HV.out]
        clear HV
        go_wp2_with fail
        refine HQ.out.mono ?_
        rintro e U ⟨rfl, b1⟩
        have a0 := (b1.cell (p := ⟨w.heap.size, 0, none⟩) lq).trans q0
        have a1 := (b1.cell (p := ⟨w.heap.size, 1, none⟩) lq).trans q1
        have al := Nat.lt_of_lt_of_le lq b1.size
        have B2 := Lib.hid (below3 BB.out b1)
        clear b1 q0 q1 lq HQ
        go_wp2_with fail
        go_ret
        exact ⟨by simp, B2.out⟩
      · rw [decide_eq_false (show ¬ inWo is st i from fun q => by have := q.2.2; omega)]
        rw [show chkWo is st = 0 from if_pos hok] at HQ
        replace HQ := Lib.hid HQ
        replace h0 := decide_eq_true h0
        replace h1 := decide_eq_false h1
        clear hok
        go_enter Try.func31, Try.ntmps31
        go_upto_region 1 with fail
        rw [HV.out]
        clear HV
        go_wp2_with fail
        refine HQ.out.mono ?_
        rintro e U ⟨rfl, b1⟩
        have a0 := (b1.cell (p := ⟨w.heap.size, 0, none⟩) lq).trans q0
        have a1 := (b1.cell (p := ⟨w.heap.size, 1, none⟩) lq).trans q1
        have al := Nat.lt_of_lt_of_le lq b1.size
        have B2 := Lib.hid (below3 BB.out b1)
        clear b1 q0 q1 lq HQ
        go_wp2_with fail
        go_ret
        exact ⟨by simp, B2.out⟩
    · rw [decide_eq_false (show ¬ inWo is st i from fun q => by have := q.2.1; omega)]
      rw [show chkWo is st = 0 from if_pos hok] at HQ
      replace HQ := Lib.hid HQ
      replace h0 := decide_eq_false h0
      clear hok
      go_enter Try.func31, Try.ntmps31
      go_upto_region 1 with fail
      rw [HV.out]
      clear HV
      go_wp2_with fail
      refine HQ.out.mono ?_
      rintro e U ⟨rfl, b1⟩
      have a0 := (b1.cell (p := ⟨w.heap.size, 0, none⟩) lq).trans q0
      have a1 := (b1.cell (p := ⟨w.heap.size, 1, none⟩) lq).trans q1
      have al := Nat.lt_of_lt_of_le lq b1.size
      have B2 := Lib.hid (below3 BB.out b1)
      clear b1 q0 q1 lq HQ
      go_wp2_with fail
      go_ret
      exact ⟨by simp, B2.out⟩
  · rw [decide_eq_false (show ¬ inWo is st i from fun q => hok q.1)]
    rw [show chkWo is st = 1 from if_neg hok] at HQ
    replace HQ := Lib.hid HQ
    clear hok
    go_enter Try.func31, Try.ntmps31
    go_upto_region 1 with fail
    rw [HV.out]
    clear HV
    go_wp2_with fail
    refine HQ.out.mono ?_
    rintro e U ⟨rfl, b1⟩
    have a0 := (b1.cell (p := ⟨w.heap.size, 0, none⟩) lq).trans q0
    have a1 := (b1.cell (p := ⟨w.heap.size, 1, none⟩) lq).trans q1
    have al := Nat.lt_of_lt_of_le lq b1.size
    have B2 := Lib.hid (below3 BB.out b1)
    clear b1 q0 q1 lq HQ
    go_wp2_with fail
    go_ret
    exact ⟨by simp, B2.out⟩

set_option maxHeartbeats 1000000 in
theorem rcount_wo (A B : Option Addr) (n a m b : Nat) (is st : List Int) (what : Int) (w : World) (hi : Ints w A n is) (hs : Ints w B m st) :
    Calls Try.prog 22 #[.agg #[.slice A n a, .slice B m b], .int .i64 what] w (RetB (.tuple #[.int .i64 (countWo is st what).1, .int .i64 (countWo is st what).2]) w) := by
  obtain ⟨kd, bb⟩ := lay1 w #[.slice A n a, .slice B m b] 24
  obtain ⟨V, hV⟩ : ∃ V, w.alloc (.cells #[.slice A n a, .slice B m b] 24) = V := ⟨_, rfl⟩
  rw [hV] at kd bb
  have HV := Lib.hid hV
  have BB := Lib.hid bb
  obtain ⟨q0, q1⟩ := kd.c2w
  have lq := kd.lt
  have hil := hi.1
  have HQ := rcheck_wo A B n a m b is st V (hi.below bb) (hs.below bb)
  have HMM := Lib.hid fun U (hU : Below w.heap.size w U) => many_wo A n a is what U (hi.below hU)
  clear hV kd bb hi hs
  by_cases hok : okWo is st
  · by_cases h0 : what < 0
    · rw [show countWo is st what = (0, 1) from if_neg (fun q => by have := q.2.1; omega)]
      rw [show chkWo is st = 0 from if_pos hok] at HQ
      replace HQ := Lib.hid HQ
      replace h0 := decide_eq_true h0
      clear hok
      go_enter Try.func22, Try.ntmps22
      go_upto_region 1 with fail
      rw [HV.out]
      clear HV
      go_wp2_with fail
      refine HQ.out.mono ?_
      rintro e U ⟨rfl, b1⟩
      have a0 := (b1.cell (p := ⟨w.heap.size, 0, none⟩) lq).trans q0
      have al := Nat.lt_of_lt_of_le lq b1.size
      have B2 := Lib.hid (below3 BB.out b1)
      clear b1 q0 q1 lq HQ
      go_wp2_with fail
      exact bodyPost_ret (results_tmp2 rfl _ _ _) rfl (by exact ⟨rfl, B2.out⟩)
    · by_cases h1 : 3 < what
      · rw [show countWo is st what = (0, 1) from if_neg (fun q => by have := q.2.2; omega)]
        rw [show chkWo is st = 0 from if_pos hok] at HQ
        replace HQ := Lib.hid HQ
        replace h0 := decide_eq_false h0
        replace h1 := decide_eq_true h1
        clear hok
        go_enter Try.func22, Try.ntmps22
        go_upto_region 1 with fail
        rw [HV.out]
        clear HV
        go_wp2_with fail
        refine HQ.out.mono ?_
        rintro e U ⟨rfl, b1⟩
        have a0 := (b1.cell (p := ⟨w.heap.size, 0, none⟩) lq).trans q0
        have al := Nat.lt_of_lt_of_le lq b1.size
        have B2 := Lib.hid (below3 BB.out b1)
        clear b1 q0 q1 lq HQ
        go_wp2_with fail
        exact bodyPost_ret (results_tmp2 rfl _ _ _) rfl (by exact ⟨rfl, B2.out⟩)
      · rw [show countWo is st what = ((manyWo is what : Int), 0) from if_pos ⟨hok, by omega, by omega⟩]
        rw [show chkWo is st = 0 from if_pos hok] at HQ
        replace HQ := Lib.hid HQ
        replace h0 := decide_eq_false h0
        replace h1 := decide_eq_false h1
        clear hok
        go_enter Try.func22, Try.ntmps22
        go_upto_region 1 with fail
        rw [HV.out]
        clear HV
        go_wp2_with fail
        refine HQ.out.mono ?_
        rintro e U ⟨rfl, b1⟩
        have a0 := (b1.cell (p := ⟨w.heap.size, 0, none⟩) lq).trans q0
        have al := Nat.lt_of_lt_of_le lq b1.size
        have B2 := Lib.hid (below3 BB.out b1)
        clear b1 q0 q1 lq HQ
        go_wp2_with fail
        refine (HMM.out _ B2.out).mono ?_
        rintro e w2 ⟨rfl, rfl⟩
        go_wp2_with fail
        exact bodyPost_ret (results_tmp2 rfl _ _ _) rfl (by exact ⟨rfl, B2.out⟩)
  · rw [show countWo is st what = (0, 1) from if_neg (fun q => by exact hok q.1)]
    rw [show chkWo is st = 1 from if_neg hok] at HQ
    replace HQ := Lib.hid HQ
    clear hok
    go_enter Try.func22, Try.ntmps22
    go_upto_region 1 with fail
    rw [HV.out]
    clear HV
    go_wp2_with fail
    refine HQ.out.mono ?_
    rintro e U ⟨rfl, b1⟩
    have a0 := (b1.cell (p := ⟨w.heap.size, 0, none⟩) lq).trans q0
    have al := Nat.lt_of_lt_of_le lq b1.size
    have B2 := Lib.hid (below3 BB.out b1)
    clear b1 q0 q1 lq HQ
    go_wp2_with fail
    exact bodyPost_ret (results_tmp2 rfl _ _ _) rfl (by exact ⟨rfl, B2.out⟩)

theorem OwnI.alloc {E : TypeId} {w : World} {base : Nat} {A : Option Addr} {c : Nat} {zs : List Int} (h : OwnI E w base A c zs) (o : Obj) : OwnI E (w.alloc o) base A c zs := h.below ((Below.refl _ _).alloc (Nat.le_refl _) o)
theorem app_wo {E : TypeId} {w wr w1 : World} {A : Option Addr} {c n : Nat} {zs : List Int} {o : Obj} (h : OwnI E wr w.heap.size A c zs) (hb : Below w.heap.size w wr) (hg : (wr.alloc o).grownBy w1 (Value.slice A n c).ownBlock) : Below w.heap.size w w1 :=
  below_app (hb.alloc hb.size o) (h.alloc o) hg (by have := hb.size; simp; omega)

set_option maxHeartbeats 1000000 in
theorem without_wo (A : Option Addr) (n c : Nat) (l : List Int) (x : Int) (w : World) (hx : Ints w A n l) :
    Calls Try.prog 34 #[.slice A n c, .int .i64 x] w (NewI 3 (butBt l x) w) := by
  have HX := Lib.hid hx
  have LX := Lib.hid hx.1
  have hnc := hx.2.1
  clear hx
  go_enter Try.func34, Try.ntmps34
  go_wp2_with fail
  go_loopw [5, 10] (fun u t wr => ∃ (k : Nat) (D : Option Addr) (d : Nat), k ≤ n ∧ t = .int .i64 k ∧ u = .slice D (butBt (l.take k) x).length d ∧ Hid (OwnI 3 wr w.heap.size D d (butBt (l.take k) x) ∧ Below w.heap.size w wr)) (fun _ t _ => n - (intOf t).toNat)
  case atStart => exact ⟨0, none, 0, Nat.zero_le _, rfl, rfl, Lib.hid ⟨OwnI.nil_ _ _ _, Below.refl _ _⟩⟩
  case round =>
    rename World => wr
    obtain ⟨k, D, d, hk, rfl, rfl, OK⟩ := hrel
    by_cases hkn : k < n
    · obtain ⟨b, o, rfl, hb, c0⟩ := (HX.out.below OK.out.2).at_bt hkn
      have fz := (HX.out.below OK.out.2).fit_bt hkn
      have hkl : k < l.length := by rw [LX.out]; exact hkn
      have hnx := but_nextBt hkl x
      have hle := Nat.le_trans (but_lenBt (l.take k) x) (by rw [List.length_take]; exact Nat.min_le_left _ _)
      obtain ⟨z, hz⟩ : ∃ z, nth l k = z := ⟨_, rfl⟩
      rw [hz] at c0 fz hnx
      obtain ⟨bt, hbt⟩ : ∃ bt, butBt (l.take k) x = bt := ⟨_, rfl⟩
      rw [hbt] at hnx hle OK ⊢
      by_cases he : z = x
      · rw [if_pos he] at hnx
        have t0 : (z == x) = true := by simpa using he
        have HN := Lib.hid hnx
        clear he hz hbt hnx fz
        go_wp2_with fail
        go_roundw
        case rel => exact ⟨k + 1, D, d, by omega, by go_num, by rw [HN.out], Lib.hid (by rw [HN.out]; exact OK.out)⟩
        case measure => simp [intOf]; omega
      · rw [if_neg he] at hnx
        have t0 : (z == x) = false := by simpa using he
        have HN := Lib.hid hnx
        have FZ := Lib.hid fz
        clear he hz hbt hnx fz
        go_wp2_with (at_builtin; refine wpList_append_ints _ rfl _ _ 22 rfl 3 Try.underlying22 Try.intInfo17 w.heap.size D d bt bt.length rfl rfl (OK.out.1.alloc _) (some ⟨wr.heap.size, 0, none⟩) 1 1 [z] rfl (ints1 wr 3 FZ.out) (by omega) (by simp; have := OK.out.2.size; omega) ?_; intro A1 c1 w1 ho hg; have HO := Lib.hid ho; have HB := Lib.hid (app_wo OK.out.1 OK.out.2 hg); clear ho hg)
        go_roundw
        case rel => exact ⟨k + 1, A1, c1, by omega, by go_num, by rw [HN.out]; simp, Lib.hid (by rw [HN.out]; exact ⟨HO.out, HB.out⟩)⟩
        case measure => simp [intOf]; omega
    · have HE : Hid (butBt (l.take k) x = butBt l x) := Lib.hid (by rw [List.take_of_length_le (by have := LX.out; omega)])
      go_wp2_with fail
      go_ret
      exact ⟨D, d, by rw [← HE.out]; rfl, by rw [← HE.out]; exact OK.out.1, OK.out.2⟩

end Go.Proofs.Ytmndkofdoclihaa

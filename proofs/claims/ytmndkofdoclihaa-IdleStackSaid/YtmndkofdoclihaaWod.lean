/-
  Layer 17, the program: tallyOf, Check, Count, Same.
-/
import Derived.Test.YtmndkofdoclihaaWoc
namespace Go.Proofs.Ytmndkofdoclihaa
open Go.RowKit

/-- What tallyOf hands back. -/
def tallyR (is st : List Int) : Value := if okWo is st then .tuple #[.agg #[.int .i64 (manyWo is 0 : Int), .int .i64 (manyWo is 1 : Int), .int .i64 (manyWo is 2 : Int), .int .i64 (manyWo is 3 : Int)], .int .i64 0] else .tuple #[.agg #[.int .i64 0, .int .i64 0, .int .i64 0, .int .i64 0], .int .i64 1]
theorem tallyR_ok {is st : List Int} (h : okWo is st) : tallyR is st = .tuple #[.agg #[.int .i64 (manyWo is 0 : Int), .int .i64 (manyWo is 1 : Int), .int .i64 (manyWo is 2 : Int), .int .i64 (manyWo is 3 : Int)], .int .i64 0] := if_pos h
theorem tallyR_no {is st : List Int} (h : ¬ okWo is st) : tallyR is st = .tuple #[.agg #[.int .i64 0, .int .i64 0, .int .i64 0, .int .i64 0], .int .i64 1] := if_neg h

set_option maxHeartbeats 4000000 in
theorem tally_wo (A B : Option Addr) (n a m b : Nat) (is st : List Int) (w : World) (hi : Ints w A n is) (hs : Ints w B m st) :
    Calls Try.prog 35 #[.agg #[.slice A n a, .slice B m b]] w (RetB (tallyR is st) w) := by
  have hm0 := hs.2.1
  have hn0 := hi.2.1
  have hil := hi.1
  have hsl := hs.1
  obtain ⟨kd, kr, bb⟩ := lies2 w #[.slice A n a, .slice B m b] #[.int .i64 0, .int .i64 0, .int .i64 0, .int .i64 0] 24 46
  obtain ⟨V, hV⟩ : ∃ V, (w.alloc (.cells #[.slice A n a, .slice B m b] 24)).alloc (.cells #[.int .i64 0, .int .i64 0, .int .i64 0, .int .i64 0] 46) = V := ⟨_, rfl⟩
  rw [hV] at kd kr bb
  have HV := Lib.hid hV
  clear hV
  have BB := Lib.hid bb
  have KD := Lib.hid kd
  have KR := Lib.hid kr
  clear bb kd kr
  by_cases g0 : (n : Int) < 1
  · rw [tallyR_no (fun q => by have := q.1; omega)]
    replace g0 := decide_eq_true g0
    obtain ⟨q0, q1⟩ := KD.out.c2w
    have lq := KD.out.lt
    clear KD hi hs
    go_enter Try.func35, Try.ntmps35
    go_upto_region 1 with fail
    rw [HV.out]
    clear HV
    obtain ⟨r0, r1, r2, r3⟩ := KR.out.c4w
    obtain ⟨s0, s1, s2, s3⟩ := KR.out.f4w
    have lr := KR.out.lt
    have hs4 := Lib.hid (bk_set4w KR.out (.int .i64 0) (.int .i64 0) (.int .i64 0) (.int .i64 0))
    have hB := Lib.hid (below_set4w (g := w.heap.size + 1) BB.out (by omega) (.int .i64 0) (.int .i64 0) (.int .i64 0) (.int .i64 0))
    go_wp2_with fail
    obtain ⟨u0, u1, u2, u3⟩ := hs4.out.c4w
    unfold set4w at u0 u1 u2 u3 hB
    exact bodyPost_ret (v := .tuple #[.agg #[.int .i64 0, .int .i64 0, .int .i64 0, .int .i64 0], .int .i64 1]) (by simp [results, Try.results35, go_sem, u0, u1, u2, u3]) rfl ⟨rfl, hB.out⟩
  · by_cases g1 : 64 < (n : Int)
    · rw [tallyR_no (fun q => by have := q.1; omega)]
      replace g0 := decide_eq_false g0
      replace g1 := decide_eq_true g1
      obtain ⟨q0, q1⟩ := KD.out.c2w
      have lq := KD.out.lt
      clear KD hi hs
      go_enter Try.func35, Try.ntmps35
      go_upto_region 1 with fail
      rw [HV.out]
      clear HV
      obtain ⟨r0, r1, r2, r3⟩ := KR.out.c4w
      obtain ⟨s0, s1, s2, s3⟩ := KR.out.f4w
      have lr := KR.out.lt
      have hs4 := Lib.hid (bk_set4w KR.out (.int .i64 0) (.int .i64 0) (.int .i64 0) (.int .i64 0))
      have hB := Lib.hid (below_set4w (g := w.heap.size + 1) BB.out (by omega) (.int .i64 0) (.int .i64 0) (.int .i64 0) (.int .i64 0))
      go_wp2_with fail
      obtain ⟨u0, u1, u2, u3⟩ := hs4.out.c4w
      unfold set4w at u0 u1 u2 u3 hB
      exact bodyPost_ret (v := .tuple #[.agg #[.int .i64 0, .int .i64 0, .int .i64 0, .int .i64 0], .int .i64 1]) (by simp [results, Try.results35, go_sem, u0, u1, u2, u3]) rfl ⟨rfl, hB.out⟩
    · by_cases h4 : fours is
      · have HQ := anynothing_wo A n a is V (hi.below BB.out)
        rw [decide_eq_true h4] at HQ
        replace HQ := Lib.hid HQ
        have HI := Lib.hid hi
        have HS := Lib.hid hs
        have H4 := Lib.hid h4
        have HIL := Lib.hid hil
        have HSL := Lib.hid hsl
        have hn64 : n ≤ 64 := by omega
        have hn1 : 1 ≤ n := by omega
        obtain ⟨q0, q1⟩ := KD.out.c2w
        have lq := KD.out.lt
        replace g0 := decide_eq_false g0
        replace g1 := decide_eq_false g1
        clear hi hs h4 hil hsl
        go_enter Try.func35, Try.ntmps35
        go_upto_region 1 with fail
        rw [HV.out]
        clear HV
        go_wp2_with fail
        clear q0 q1 lq
        refine HQ.out.mono ?_
        rintro e U ⟨rfl, b1⟩
        replace KD := Lib.hid (KD.out.below b1 KD.out.lt)
        replace KR := Lib.hid (KR.out.below b1 KR.out.lt)
        replace BB := Lib.hid (below3 BB.out b1)
        clear b1 HQ
        have k6 : BkI (U.alloc (.cells #[.int .i64 0, .int .i64 0, .int .i64 0, .int .i64 0] 46)) U.heap.size 46 (talW (is.take 0)) := Bk.new U 46 #[.int .i64 0, .int .i64 0, .int .i64 0, .int .i64 0]
        have b6 := (Below.refl U.heap.size U).alloc (Nat.le_refl _) (.cells #[.int .i64 0, .int .i64 0, .int .i64 0, .int .i64 0] 46)
        have hne0 := Nat.ne_of_lt KD.out.lt
        have hne1 := Nat.ne_of_lt KR.out.lt
        have hgb := BB.out.size
        replace KD := Lib.hid (KD.out.below b6 KD.out.lt)
        replace KR := Lib.hid (KR.out.below b6 KR.out.lt)
        replace BB := Lib.hid (below3 BB.out b6)
        obtain ⟨W, hW⟩ : ∃ W, U.alloc (.cells #[.int .i64 0, .int .i64 0, .int .i64 0, .int .i64 0] 46) = W := ⟨_, rfl⟩
        obtain ⟨gc, hg⟩ : ∃ g, U.heap.size = g := ⟨_, rfl⟩
        rw [hW] at k6 KD KR BB
        rw [hg] at k6 hne0 hne1 hgb
        have HW := Lib.hid hW
        have HG := Lib.hid hg
        have K6 := Lib.hid k6
        have HN0 := Lib.hid hne0
        have HN1 := Lib.hid hne1
        have HGB := Lib.hid hgb
        clear hW hg k6 b6 hne0 hne1 hgb
        go_upto_region 4 with fail
        rw [HW.out, HG.out]
        clear HW HG
        obtain ⟨q0, q1⟩ := KD.out.c2w
        have lq := KD.out.lt
        go_wp2_with fail
        go_loopw [26] (fun t wr => ∃ k : Nat, k ≤ n ∧ t = .int .i64 k ∧ Hid (BkI wr gc 46 (talW (is.take k)) ∧ Below w.heap.size w wr ∧ Bk wr w.heap.size 24 #[.slice A n a, .slice B m b] ∧ Bk wr (w.heap.size + 1) 46 #[.int .i64 0, .int .i64 0, .int .i64 0, .int .i64 0])) (fun t _ => n - (intOf t).toNat)
        case atStart => exact ⟨0, Nat.zero_le _, rfl, Lib.hid ⟨K6.out, BB.out, KD.out, KR.out⟩⟩
        case round =>
          clear KD KR BB K6 q0 q1 lq
          rename World => wr
          obtain ⟨k, hk, rfl, OK⟩ := hrel
          by_cases hkn : k < n
          · obtain ⟨bS, o, rfl, hb, c0⟩ := (HI.out.below OK.out.2.1).at_bt hkn
            have hkl : k < is.length := by rw [HIL.out]; exact hkn
            have h03 := fours_at H4.out hkl
            obtain ⟨f, hf⟩ : ∃ f : Nat, nth is k = (f : Int) := ⟨(nth is k).toNat, by omega⟩
            have hf4 : f < 4 := by omega
            have m0 := OK.out.1.at_ (k := f) hf4
            have hx0 : nth (talW (is.take k)) f = (manyWo (is.take k) (f : Int) : Int) := talW_at _ hf4
            have hx1 := many_take_le is k (f : Int)
            have tl := tal_one hkl hf4 hf
            obtain ⟨x, hx⟩ : ∃ x, nth (talW (is.take k)) f = x := ⟨_, rfl⟩
            rw [hx] at m0 hx0 tl
            rw [hf] at c0
            have e1 : IntKind.i64.wrap (x + 1) = x + 1 := by rw [IntKind.wrap_i64]; omega
            have fz := OK.out.1.frozen f
            have ml := OK.out.1.lt
            have K2 := OK.out.1.set_ f (x + 1)
            rw [tl] at K2
            have OK2 : Hid (BkI (wr.setCell ⟨gc, f, none⟩ (.int .i64 (x + 1))) gc 46 (talW (is.take (k + 1))) ∧ Below w.heap.size w (wr.setCell ⟨gc, f, none⟩ (.int .i64 (x + 1))) ∧ Bk (wr.setCell ⟨gc, f, none⟩ (.int .i64 (x + 1))) w.heap.size 24 #[.slice (some ⟨bS, o, none⟩) n a, .slice B m b] ∧ Bk (wr.setCell ⟨gc, f, none⟩ (.int .i64 (x + 1))) (w.heap.size + 1) 46 #[.int .i64 0, .int .i64 0, .int .i64 0, .int .i64 0]) := Lib.hid ⟨K2, OK.out.2.1.setCell (p := ⟨gc, f, none⟩) HGB.out _, OK.out.2.2.1.far (p := ⟨gc, f, none⟩) HN0.out _, OK.out.2.2.2.far (p := ⟨gc, f, none⟩) HN1.out _⟩
            clear K2 tl hx hx0 hx1 h03 hf OK hkl
            go_wp2_with fail
            go_roundw
            case rel => exact ⟨k + 1, by omega, by go_num, OK2⟩
            case measure => simp [intOf]; omega
          · have KC : Hid (Bk wr gc 46 #[.int .i64 (manyWo is 0 : Int), .int .i64 (manyWo is 1 : Int), .int .i64 (manyWo is 2 : Int), .int .i64 (manyWo is 3 : Int)]) := Lib.hid (by have := OK.out.1; rw [show k = is.length by have := HIL.out; omega, List.take_length] at this; exact this)
            have BB := Lib.hid OK.out.2.1
            have KD := Lib.hid OK.out.2.2.1
            have KR := Lib.hid OK.out.2.2.2
            clear OK
            have hnk : k = n := by omega
            subst hnk
            have HM := Lib.hid (mayBe_wo is H4.out (by rw [HIL.out]; exact hn64))
            have HT := Lib.hid fun U hU => stacked_wo A B k a m b is st U (HI.out.below hU) (HS.out.below hU) H4.out hn64
            by_cases h5 : fitsWo is
            · rw [decide_eq_true h5] at HM
              by_cases h6 : st.length = manyWo is 2 + manyWo is 3 ∧ onceWo is st
              · have HRR := Lib.hid (tallyR_ok (is := is) (st := st) ⟨by have := HIL.out; omega, H4.out, h5, h6⟩)
                rw [decide_eq_true h6] at HT
                clear h5 h6
                obtain ⟨p0, p1, p2, p3⟩ := KC.out.c4w
                have lp := KC.out.lt
                obtain ⟨q0, q1⟩ := KD.out.c2w
                have lq := KD.out.lt
                go_wp2_with fail
                refine (HM.out _).mono ?_
                rintro e U1 ⟨rfl, b1⟩
                clear p0 p1 p2 p3 lp q0 q1 lq
                replace BB := Lib.hid (below3 BB.out b1)
                replace KD := Lib.hid (KD.out.below b1 KD.out.lt)
                replace KR := Lib.hid (KR.out.below b1 KR.out.lt)
                replace KC := Lib.hid (KC.out.below b1 KC.out.lt)
                clear b1 HM
                obtain ⟨p0, p1, p2, p3⟩ := KC.out.c4w
                have lp := KC.out.lt
                obtain ⟨q0, q1⟩ := KD.out.c2w
                have lq := KD.out.lt
                go_wp2_with fail
                refine (HT.out _ BB.out).mono ?_
                rintro e U2 ⟨rfl, b2⟩
                clear p0 p1 p2 p3 lp q0 q1 lq
                replace BB := Lib.hid (below3 BB.out b2)
                replace KD := Lib.hid (KD.out.below b2 KD.out.lt)
                replace KR := Lib.hid (KR.out.below b2 KR.out.lt)
                replace KC := Lib.hid (KC.out.below b2 KC.out.lt)
                clear b2 HT KD
                obtain ⟨p0, p1, p2, p3⟩ := KC.out.c4w
                have lp := KC.out.lt
                obtain ⟨r0, r1, r2, r3⟩ := KR.out.c4w
                obtain ⟨s0, s1, s2, s3⟩ := KR.out.f4w
                have lr := KR.out.lt
                have hs4 := Lib.hid (bk_set4w KR.out (.int .i64 (manyWo is 0 : Int)) (.int .i64 (manyWo is 1 : Int)) (.int .i64 (manyWo is 2 : Int)) (.int .i64 (manyWo is 3 : Int)))
                have hB := Lib.hid (below_set4w (g := w.heap.size + 1) BB.out (by omega) (.int .i64 (manyWo is 0 : Int)) (.int .i64 (manyWo is 1 : Int)) (.int .i64 (manyWo is 2 : Int)) (.int .i64 (manyWo is 3 : Int)))
                go_wp2_with fail
                obtain ⟨u0, u1, u2, u3⟩ := hs4.out.c4w
                unfold set4w at u0 u1 u2 u3 hB
                exact bodyPost_ret (v := .tuple #[.agg #[.int .i64 (manyWo is 0 : Int), .int .i64 (manyWo is 1 : Int), .int .i64 (manyWo is 2 : Int), .int .i64 (manyWo is 3 : Int)], .int .i64 0]) (by simp [results, Try.results35, go_sem, u0, u1, u2, u3]) rfl ⟨by rw [HRR.out], hB.out⟩
              · have HRR := Lib.hid (tallyR_no (is := is) (st := st) (fun q => h6 q.2.2.2))
                rw [decide_eq_false h6] at HT
                clear h5 h6
                obtain ⟨p0, p1, p2, p3⟩ := KC.out.c4w
                have lp := KC.out.lt
                obtain ⟨q0, q1⟩ := KD.out.c2w
                have lq := KD.out.lt
                go_wp2_with fail
                refine (HM.out _).mono ?_
                rintro e U1 ⟨rfl, b1⟩
                clear p0 p1 p2 p3 lp q0 q1 lq
                replace BB := Lib.hid (below3 BB.out b1)
                replace KD := Lib.hid (KD.out.below b1 KD.out.lt)
                replace KR := Lib.hid (KR.out.below b1 KR.out.lt)
                replace KC := Lib.hid (KC.out.below b1 KC.out.lt)
                clear b1 HM
                obtain ⟨p0, p1, p2, p3⟩ := KC.out.c4w
                have lp := KC.out.lt
                obtain ⟨q0, q1⟩ := KD.out.c2w
                have lq := KD.out.lt
                go_wp2_with fail
                refine (HT.out _ BB.out).mono ?_
                rintro e U2 ⟨rfl, b2⟩
                clear p0 p1 p2 p3 lp q0 q1 lq
                replace BB := Lib.hid (below3 BB.out b2)
                replace KD := Lib.hid (KD.out.below b2 KD.out.lt)
                replace KR := Lib.hid (KR.out.below b2 KR.out.lt)
                replace KC := Lib.hid (KC.out.below b2 KC.out.lt)
                clear b2 HT KC KD
                obtain ⟨r0, r1, r2, r3⟩ := KR.out.c4w
                obtain ⟨s0, s1, s2, s3⟩ := KR.out.f4w
                have lr := KR.out.lt
                have hs4 := Lib.hid (bk_set4w KR.out (.int .i64 0) (.int .i64 0) (.int .i64 0) (.int .i64 0))
                have hB := Lib.hid (below_set4w (g := w.heap.size + 1) BB.out (by omega) (.int .i64 0) (.int .i64 0) (.int .i64 0) (.int .i64 0))
                go_wp2_with fail
                obtain ⟨u0, u1, u2, u3⟩ := hs4.out.c4w
                unfold set4w at u0 u1 u2 u3 hB
                exact bodyPost_ret (v := .tuple #[.agg #[.int .i64 0, .int .i64 0, .int .i64 0, .int .i64 0], .int .i64 1]) (by simp [results, Try.results35, go_sem, u0, u1, u2, u3]) rfl ⟨by rw [HRR.out], hB.out⟩
            · have HRR := Lib.hid (tallyR_no (is := is) (st := st) (fun q => h5 q.2.2.1))
              rw [decide_eq_false h5] at HM
              clear h5
              obtain ⟨p0, p1, p2, p3⟩ := KC.out.c4w
              have lp := KC.out.lt
              obtain ⟨q0, q1⟩ := KD.out.c2w
              have lq := KD.out.lt
              go_wp2_with fail
              refine (HM.out _).mono ?_
              rintro e U1 ⟨rfl, b1⟩
              clear p0 p1 p2 p3 lp q0 q1 lq
              replace BB := Lib.hid (below3 BB.out b1)
              replace KD := Lib.hid (KD.out.below b1 KD.out.lt)
              replace KR := Lib.hid (KR.out.below b1 KR.out.lt)
              replace KC := Lib.hid (KC.out.below b1 KC.out.lt)
              clear b1 KC KD HT HM
              obtain ⟨r0, r1, r2, r3⟩ := KR.out.c4w
              obtain ⟨s0, s1, s2, s3⟩ := KR.out.f4w
              have lr := KR.out.lt
              have hs4 := Lib.hid (bk_set4w KR.out (.int .i64 0) (.int .i64 0) (.int .i64 0) (.int .i64 0))
              have hB := Lib.hid (below_set4w (g := w.heap.size + 1) BB.out (by omega) (.int .i64 0) (.int .i64 0) (.int .i64 0) (.int .i64 0))
              go_wp2_with fail
              obtain ⟨u0, u1, u2, u3⟩ := hs4.out.c4w
              unfold set4w at u0 u1 u2 u3 hB
              exact bodyPost_ret (v := .tuple #[.agg #[.int .i64 0, .int .i64 0, .int .i64 0, .int .i64 0], .int .i64 1]) (by simp [results, Try.results35, go_sem, u0, u1, u2, u3]) rfl ⟨by rw [HRR.out], hB.out⟩
      · rw [tallyR_no (fun q => h4 q.2.1)]
        have HQ := anynothing_wo A n a is V (hi.below BB.out)
        rw [decide_eq_false h4] at HQ
        replace HQ := Lib.hid HQ
        obtain ⟨q0, q1⟩ := KD.out.c2w
        have lq := KD.out.lt
        replace g0 := decide_eq_false g0
        replace g1 := decide_eq_false g1
        clear hi hs h4
        go_enter Try.func35, Try.ntmps35
        go_upto_region 1 with fail
        rw [HV.out]
        clear HV
        go_wp2_with fail
        clear q0 q1 lq
        refine HQ.out.mono ?_
        rintro e U ⟨rfl, b1⟩
        replace KD := Lib.hid (KD.out.below b1 KD.out.lt)
        replace KR := Lib.hid (KR.out.below b1 KR.out.lt)
        replace BB := Lib.hid (below3 BB.out b1)
        clear b1 HQ
        obtain ⟨r0, r1, r2, r3⟩ := KR.out.c4w
        obtain ⟨s0, s1, s2, s3⟩ := KR.out.f4w
        have lr := KR.out.lt
        have hs4 := Lib.hid (bk_set4w KR.out (.int .i64 0) (.int .i64 0) (.int .i64 0) (.int .i64 0))
        have hB := Lib.hid (below_set4w (g := w.heap.size + 1) BB.out (by omega) (.int .i64 0) (.int .i64 0) (.int .i64 0) (.int .i64 0))
        go_wp2_with fail
        obtain ⟨u0, u1, u2, u3⟩ := hs4.out.c4w
        unfold set4w at u0 u1 u2 u3 hB
        exact bodyPost_ret (v := .tuple #[.agg #[.int .i64 0, .int .i64 0, .int .i64 0, .int .i64 0], .int .i64 1]) (by simp [results, Try.results35, go_sem, u0, u1, u2, u3]) rfl ⟨rfl, hB.out⟩

set_option maxHeartbeats 1000000 in
theorem check_wo (A B : Option Addr) (n a m b : Nat) (is st : List Int) (w : World) (hi : Ints w A n is) (hs : Ints w B m st) :
    Calls Try.prog 24 #[.agg #[.slice A n a, .slice B m b]] w (RetB (.int .i64 (chkWo is st)) w) := by
  obtain ⟨kd, bb⟩ := lay1 w #[.slice A n a, .slice B m b] 24
  obtain ⟨V, hV⟩ : ∃ V, w.alloc (.cells #[.slice A n a, .slice B m b] 24) = V := ⟨_, rfl⟩
  rw [hV] at kd bb
  have HV := Lib.hid hV
  have BB := Lib.hid bb
  obtain ⟨q0, q1⟩ := kd.c2w
  have lq := kd.lt
  by_cases hok : okWo is st
  · rw [show chkWo is st = 0 from if_pos hok]
    have HQ := tally_wo A B n a m b is st V (hi.below bb) (hs.below bb)
    rw [tallyR_ok hok] at HQ
    replace HQ := Lib.hid HQ
    clear hV bb kd hi hs
    go_enter Try.func24, Try.ntmps24
    go_upto_region 1 with fail
    rw [HV.out]
    clear HV
    go_wp2_with fail
    refine HQ.out.mono ?_
    rintro e U ⟨rfl, b1⟩
    clear q0 q1 lq HQ
    have B2 := Lib.hid ((below3 BB.out b1).alloc (Nat.le_trans BB.out.size b1.size) (.cells #[.int .i64 (manyWo is 0 : Int), .int .i64 (manyWo is 1 : Int), .int .i64 (manyWo is 2 : Int), .int .i64 (manyWo is 3 : Int)] 46))
    clear b1
    go_wp2_with fail
    go_ret
    exact ⟨rfl, B2.out⟩
  · rw [show chkWo is st = 1 from if_neg hok]
    have HQ := tally_wo A B n a m b is st V (hi.below bb) (hs.below bb)
    rw [tallyR_no hok] at HQ
    replace HQ := Lib.hid HQ
    clear hV bb kd hi hs
    go_enter Try.func24, Try.ntmps24
    go_upto_region 1 with fail
    rw [HV.out]
    clear HV
    go_wp2_with fail
    refine HQ.out.mono ?_
    rintro e U ⟨rfl, b1⟩
    clear q0 q1 lq HQ
    have B2 := Lib.hid ((below3 BB.out b1).alloc (Nat.le_trans BB.out.size b1.size) (.cells #[.int .i64 0, .int .i64 0, .int .i64 0, .int .i64 0] 46))
    clear b1
    go_wp2_with fail
    go_ret
    exact ⟨rfl, B2.out⟩

set_option maxHeartbeats 1000000 in
theorem count_wo (A B : Option Addr) (n a m b : Nat) (is st : List Int) (what : Int) (w : World) (hi : Ints w A n is) (hs : Ints w B m st) :
    Calls Try.prog 21 #[.agg #[.slice A n a, .slice B m b], .int .i64 what] w (RetB (.tuple #[.int .i64 (countWo is st what).1, .int .i64 (countWo is st what).2]) w) := by
  obtain ⟨kd, bb⟩ := lay1 w #[.slice A n a, .slice B m b] 24
  obtain ⟨V, hV⟩ : ∃ V, w.alloc (.cells #[.slice A n a, .slice B m b] 24) = V := ⟨_, rfl⟩
  rw [hV] at kd bb
  have HV := Lib.hid hV
  have BB := Lib.hid bb
  obtain ⟨q0, q1⟩ := kd.c2w
  have lq := kd.lt
  by_cases hok : okWo is st
  · by_cases hw : 0 ≤ what ∧ what ≤ 3
    · rw [show countWo is st what = ((manyWo is what : Int), 0) from if_pos ⟨hok, hw⟩]
      have HB := Lib.hid (nothing_wo what)
      rw [decide_eq_false (show ¬ (what < 0 ∨ 3 < what) by omega)] at HB
      obtain ⟨f, rfl⟩ := Int.eq_ofNat_of_zero_le hw.1
      have hf4 : f < 4 := by omega
      have HQ := tally_wo A B n a m b is st V (hi.below bb) (hs.below bb)
      rw [tallyR_ok hok] at HQ
      replace HQ := Lib.hid HQ
      clear hV bb kd hi hs
      go_enter Try.func21, Try.ntmps21
      go_upto_region 1 with fail
      rw [HV.out]
      clear HV
      go_wp2_with fail
      refine HQ.out.mono ?_
      rintro e U ⟨rfl, b1⟩
      clear q0 q1 lq HQ
      have k6 := Bk.new U 46 #[.int .i64 (manyWo is 0 : Int), .int .i64 (manyWo is 1 : Int), .int .i64 (manyWo is 2 : Int), .int .i64 (manyWo is 3 : Int)]
      have B2 := Lib.hid ((below3 BB.out b1).alloc (Nat.le_trans BB.out.size b1.size) (.cells #[.int .i64 (manyWo is 0 : Int), .int .i64 (manyWo is 1 : Int), .int .i64 (manyWo is 2 : Int), .int .i64 (manyWo is 3 : Int)] 46))
      obtain ⟨W, hW⟩ : ∃ W, U.alloc (.cells #[.int .i64 (manyWo is 0 : Int), .int .i64 (manyWo is 1 : Int), .int .i64 (manyWo is 2 : Int), .int .i64 (manyWo is 3 : Int)] 46) = W := ⟨_, rfl⟩
      obtain ⟨g, hg⟩ : ∃ g, U.heap.size = g := ⟨_, rfl⟩
      rw [hW] at k6 B2
      rw [hg] at k6
      have HW := Lib.hid hW
      have HG := Lib.hid hg
      clear hW hg b1
      have m0 := BkI.at_ (l := talW is) k6 (k := f) hf4
      rw [talW_at _ hf4] at m0
      have lm := k6.lt
      clear k6 hok hw
      go_upto_region 2 with fail
      rw [HW.out]
      try rw [HG.out]
      clear HW HG
      go_wp2_with fail
      refine (HB.out _).mono ?_
      rintro e U2 ⟨rfl, rfl⟩
      go_wp2_with fail
      exact bodyPost_ret (results_tmp2 rfl _ _ _) rfl (by exact ⟨rfl, B2.out⟩)
    · rw [show countWo is st what = (0, 1) from if_neg (fun q => hw q.2)]
      have HB := Lib.hid (nothing_wo what)
      rw [decide_eq_true (show what < 0 ∨ 3 < what by omega)] at HB
      have HQ := tally_wo A B n a m b is st V (hi.below bb) (hs.below bb)
      rw [tallyR_ok hok] at HQ
      replace HQ := Lib.hid HQ
      clear hV bb kd hi hs
      go_enter Try.func21, Try.ntmps21
      go_upto_region 1 with fail
      rw [HV.out]
      clear HV
      go_wp2_with fail
      refine HQ.out.mono ?_
      rintro e U ⟨rfl, b1⟩
      clear q0 q1 lq HQ
      have k6 := Bk.new U 46 #[.int .i64 (manyWo is 0 : Int), .int .i64 (manyWo is 1 : Int), .int .i64 (manyWo is 2 : Int), .int .i64 (manyWo is 3 : Int)]
      have B2 := Lib.hid ((below3 BB.out b1).alloc (Nat.le_trans BB.out.size b1.size) (.cells #[.int .i64 (manyWo is 0 : Int), .int .i64 (manyWo is 1 : Int), .int .i64 (manyWo is 2 : Int), .int .i64 (manyWo is 3 : Int)] 46))
      obtain ⟨W, hW⟩ : ∃ W, U.alloc (.cells #[.int .i64 (manyWo is 0 : Int), .int .i64 (manyWo is 1 : Int), .int .i64 (manyWo is 2 : Int), .int .i64 (manyWo is 3 : Int)] 46) = W := ⟨_, rfl⟩
      obtain ⟨g, hg⟩ : ∃ g, U.heap.size = g := ⟨_, rfl⟩
      rw [hW] at k6 B2
      rw [hg] at k6
      have HW := Lib.hid hW
      have HG := Lib.hid hg
      clear hW hg b1
      clear k6 hok hw
      go_upto_region 2 with fail
      rw [HW.out]
      try rw [HG.out]
      clear HW HG
      go_wp2_with fail
      refine (HB.out _).mono ?_
      rintro e U2 ⟨rfl, rfl⟩
      go_wp2_with fail
      exact bodyPost_ret (results_tmp2 rfl _ _ _) rfl (by exact ⟨rfl, B2.out⟩)
  · rw [show countWo is st what = (0, 1) from if_neg (fun q => hok q.1)]
    have HQ := tally_wo A B n a m b is st V (hi.below bb) (hs.below bb)
    rw [tallyR_no hok] at HQ
    replace HQ := Lib.hid HQ
    clear hV bb kd hi hs
    go_enter Try.func21, Try.ntmps21
    go_upto_region 1 with fail
    rw [HV.out]
    clear HV
    go_wp2_with fail
    refine HQ.out.mono ?_
    rintro e U ⟨rfl, b1⟩
    clear q0 q1 lq HQ
    have k6 := Bk.new U 46 #[.int .i64 0, .int .i64 0, .int .i64 0, .int .i64 0]
    have B2 := Lib.hid ((below3 BB.out b1).alloc (Nat.le_trans BB.out.size b1.size) (.cells #[.int .i64 0, .int .i64 0, .int .i64 0, .int .i64 0] 46))
    obtain ⟨W, hW⟩ : ∃ W, U.alloc (.cells #[.int .i64 0, .int .i64 0, .int .i64 0, .int .i64 0] 46) = W := ⟨_, rfl⟩
    obtain ⟨g, hg⟩ : ∃ g, U.heap.size = g := ⟨_, rfl⟩
    rw [hW] at k6 B2
    rw [hg] at k6
    have HW := Lib.hid hW
    have HG := Lib.hid hg
    clear hW hg b1
    clear k6
    go_upto_region 2 with fail
    rw [HW.out]
    try rw [HG.out]
    clear HW HG
    go_wp2_with fail
    exact bodyPost_ret (results_tmp2 rfl _ _ _) rfl (by exact ⟨rfl, B2.out⟩)

set_option maxHeartbeats 1000000 in
theorem same_wo (A B C D : Option Addr) (n a m b k c l d : Nat) (is st it su : List Int) (w : World) (hi : Ints w A n is) (hs : Ints w B m st) (hj : Ints w C k it) (ht : Ints w D l su) :
    Calls Try.prog 26 #[.agg #[.slice A n a, .slice B m b], .agg #[.slice C k c, .slice D l d]] w (RetB (.bool (sameWo is st it su)) w) := by
  obtain ⟨kd, ko, bb⟩ := lies2 w #[.slice A n a, .slice B m b] #[.slice C k c, .slice D l d] 24 24
  obtain ⟨V, hV⟩ : ∃ V, (w.alloc (.cells #[.slice A n a, .slice B m b] 24)).alloc (.cells #[.slice C k c, .slice D l d] 24) = V := ⟨_, rfl⟩
  rw [hV] at kd ko bb
  have HV := Lib.hid hV
  have BB := Lib.hid bb
  obtain ⟨q0, q1⟩ := kd.c2w
  obtain ⟨r0, r1⟩ := ko.c2w
  have lq := kd.lt
  have lr := ko.lt
  have H1 := Lib.hid (equal_wo A C n a k c is it V (hi.below bb) (hj.below bb))
  have H2 := Lib.hid fun U hU => equal_wo B D m b l d st su U (hs.below hU) (ht.below hU)
  obtain ⟨x, hx⟩ : ∃ x, sameB is it = x := ⟨_, rfl⟩
  obtain ⟨y, hy⟩ : ∃ y, sameB st su = y := ⟨_, rfl⟩
  have HR : Hid (sameWo is st it su = (x && y)) := Lib.hid (by unfold sameWo; rw [hx, hy])
  rw [HR.out]
  rw [hx] at H1
  rw [hy] at H2
  clear hx hy HR hV bb kd ko hi hj hs ht
  cases x
  · go_enter Try.func26, Try.ntmps26
    go_upto_region 1 with fail
    rw [HV.out]
    clear HV
    go_wp2_with fail
    refine H1.out.mono ?_
    rintro e U ⟨rfl, b1⟩
    have a1 := (b1.cell (p := ⟨w.heap.size, 1, none⟩) lq).trans q1
    have a2 := (b1.cell (p := ⟨w.heap.size + 1, 1, none⟩) lr).trans r1
    have a3 := Nat.lt_of_lt_of_le lq b1.size
    have a4 := Nat.lt_of_lt_of_le lr b1.size
    replace BB := Lib.hid (below3 BB.out b1)
    clear b1 q0 q1 lq r0 r1 lr H1
    go_wp2_with fail
    go_ret
    exact ⟨by simp, BB.out⟩
  · go_enter Try.func26, Try.ntmps26
    go_upto_region 1 with fail
    rw [HV.out]
    clear HV
    go_wp2_with fail
    refine H1.out.mono ?_
    rintro e U ⟨rfl, b1⟩
    have a1 := (b1.cell (p := ⟨w.heap.size, 1, none⟩) lq).trans q1
    have a2 := (b1.cell (p := ⟨w.heap.size + 1, 1, none⟩) lr).trans r1
    have a3 := Nat.lt_of_lt_of_le lq b1.size
    have a4 := Nat.lt_of_lt_of_le lr b1.size
    replace BB := Lib.hid (below3 BB.out b1)
    clear b1 q0 q1 lq r0 r1 lr H1
    go_wp2_with fail
    refine (H2.out _ BB.out).mono ?_
    rintro e U2 ⟨rfl, b2⟩
    replace BB := Lib.hid (below3 BB.out b2)
    clear b2 a1 a2 a3 a4
    go_wp2_with fail
    go_ret
    exact ⟨by simp, BB.out⟩

set_option maxHeartbeats 1000000 in
theorem rsame_wo (A B C D : Option Addr) (n a m b k c l d : Nat) (is st it su : List Int) (w : World) (hi : Ints w A n is) (hs : Ints w B m st) (hj : Ints w C k it) (ht : Ints w D l su) :
    Calls Try.prog 23 #[.agg #[.slice A n a, .slice B m b], .agg #[.slice C k c, .slice D l d]] w (RetB (.bool (sameWo is st it su)) w) := by
  obtain ⟨kd, ko, bb⟩ := lies2 w #[.slice A n a, .slice B m b] #[.slice C k c, .slice D l d] 24 24
  obtain ⟨V, hV⟩ : ∃ V, (w.alloc (.cells #[.slice A n a, .slice B m b] 24)).alloc (.cells #[.slice C k c, .slice D l d] 24) = V := ⟨_, rfl⟩
  rw [hV] at kd ko bb
  have HV := Lib.hid hV
  have BB := Lib.hid bb
  obtain ⟨q0, q1⟩ := kd.c2w
  obtain ⟨r0, r1⟩ := ko.c2w
  have lq := kd.lt
  have lr := ko.lt
  have H1 := Lib.hid (sameInts_wo A C n a k c is it V (hi.below bb) (hj.below bb))
  have H2 := Lib.hid fun U hU => sameInts_wo B D m b l d st su U (hs.below hU) (ht.below hU)
  obtain ⟨x, hx⟩ : ∃ x, sameB is it = x := ⟨_, rfl⟩
  obtain ⟨y, hy⟩ : ∃ y, sameB st su = y := ⟨_, rfl⟩
  have HR : Hid (sameWo is st it su = (x && y)) := Lib.hid (by unfold sameWo; rw [hx, hy])
  rw [HR.out]
  rw [hx] at H1
  rw [hy] at H2
  clear hx hy HR hV bb kd ko hi hj hs ht
  cases x
  · go_enter Try.func23, Try.ntmps23
    go_upto_region 1 with fail
    rw [HV.out]
    clear HV
    go_wp2_with fail
    refine H1.out.mono ?_
    rintro e U ⟨rfl, b1⟩
    have a1 := (b1.cell (p := ⟨w.heap.size, 1, none⟩) lq).trans q1
    have a2 := (b1.cell (p := ⟨w.heap.size + 1, 1, none⟩) lr).trans r1
    have a3 := Nat.lt_of_lt_of_le lq b1.size
    have a4 := Nat.lt_of_lt_of_le lr b1.size
    replace BB := Lib.hid (below3 BB.out b1)
    clear b1 q0 q1 lq r0 r1 lr H1
    go_wp2_with fail
    go_ret
    exact ⟨by simp, BB.out⟩
  · go_enter Try.func23, Try.ntmps23
    go_upto_region 1 with fail
    rw [HV.out]
    clear HV
    go_wp2_with fail
    refine H1.out.mono ?_
    rintro e U ⟨rfl, b1⟩
    have a1 := (b1.cell (p := ⟨w.heap.size, 1, none⟩) lq).trans q1
    have a2 := (b1.cell (p := ⟨w.heap.size + 1, 1, none⟩) lr).trans r1
    have a3 := Nat.lt_of_lt_of_le lq b1.size
    have a4 := Nat.lt_of_lt_of_le lr b1.size
    replace BB := Lib.hid (below3 BB.out b1)
    clear b1 q0 q1 lq r0 r1 lr H1
    go_wp2_with fail
    refine (H2.out _ BB.out).mono ?_
    rintro e U2 ⟨rfl, b2⟩
    replace BB := Lib.hid (below3 BB.out b2)
    clear b2 a1 a2 a3 a4
    go_wp2_with fail
    go_ret
    exact ⟨by simp, BB.out⟩

end Go.Proofs.Ytmndkofdoclihaa

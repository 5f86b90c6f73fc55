/-
  The law IdleCounts of layer 17, walked.
-/
import Derived.Test.YtmndkofdoclihaaWol
import Derived.Test.YtmndkofdoclihaaWox
import Derived.Deep.LoopGhost
import Derived.Deep.CutBlock
namespace Go.Proofs.Ytmndkofdoclihaa
open Go.RowKit

theorem BkI.setB {w : World} {g : Nat} {t : TypeId} {l : List Int} (h : BkI w g t l) (k : Nat) (x : Int) : BkI (w.setCell ⟨g, k, none⟩ (.int .i64 x)) g t (l.set k x) := h.set_ k x
set_option maxRecDepth 100000 in
set_option maxHeartbeats 8000000 in
theorem idlecounts_any (A B : Option Addr) (n a m b : Nat) (is st : List Int) (w : World) (hi : Ints w A n is) (hs : Ints w B m st) :
    Calls Try.prog 5 #[.agg #[.slice A n a, .slice B m b]] w (RetB (.bool true) w) := by
  have hn0 := hi.2.1
  have hm0 := hs.2.1
  by_cases g0 : 100 < n
  · have t0 : decide (100 < (n : Int)) = true := decide_eq_true (by omega)
    clear hi hs
    obtain ⟨kb0, hb0⟩ := lay1 w #[.slice A n a, .slice B m b] 24
    obtain ⟨V, hV⟩ : ∃ V, w.alloc (.cells #[.slice A n a, .slice B m b] 24) = V := ⟨_, rfl⟩
    rw [hV] at hb0 kb0
    have HV := Lib.hid hV
    have BB := Lib.hid hb0
    have KD := Lib.hid kb0
    have HBD : Hid (w.heap.size ≤ w.heap.size) := Lib.hid (by omega)
    clear hV hb0 kb0
    go_enter Try.func5, Try.ntmps5
    go_upto_region 1 with fail
    rw [HV.out]
    clear HV
    go_wp2_with fail
    refine (live_wo _).mono ?_
    try dsimp only
    rintro e U1 ⟨rfl, bU1⟩
    replace KD := Lib.hid (KD.out.below bU1 KD.out.lt)
    replace BB := Lib.hid (below3 BB.out bU1)
    clear bU1
    obtain ⟨qD_0, qD_1⟩ := KD.out.c2w
    have lD := KD.out.lt
    go_wp2_with fail
    go_ret
    exact ⟨rfl, BB.out⟩
  · by_cases g1 : 100 < m
    · have t0 : decide (100 < (n : Int)) = false := decide_eq_false (by omega)
      have t1 : decide (100 < (m : Int)) = true := decide_eq_true (by omega)
      clear hi hs
      obtain ⟨kb0, hb0⟩ := lay1 w #[.slice A n a, .slice B m b] 24
      obtain ⟨V, hV⟩ : ∃ V, w.alloc (.cells #[.slice A n a, .slice B m b] 24) = V := ⟨_, rfl⟩
      rw [hV] at hb0 kb0
      have HV := Lib.hid hV
      have BB := Lib.hid hb0
      have KD := Lib.hid kb0
      have HBD : Hid (w.heap.size ≤ w.heap.size) := Lib.hid (by omega)
      clear hV hb0 kb0
      go_enter Try.func5, Try.ntmps5
      go_upto_region 1 with fail
      rw [HV.out]
      clear HV
      go_wp2_with fail
      refine (live_wo _).mono ?_
      try dsimp only
      rintro e U1 ⟨rfl, bU1⟩
      replace KD := Lib.hid (KD.out.below bU1 KD.out.lt)
      replace BB := Lib.hid (below3 BB.out bU1)
      clear bU1
      obtain ⟨qD_0, qD_1⟩ := KD.out.c2w
      have lD := KD.out.lt
      go_wp2_with fail
      go_ret
      exact ⟨rfl, BB.out⟩
    · by_cases hok : okWo is st
      · have t0 : decide (100 < (n : Int)) = false := decide_eq_false (by omega)
        have t1 : decide (100 < (m : Int)) = false := decide_eq_false (by omega)
        have HC := Lib.hid fun U what hU => count_wo A B n a m b is st what U (hi.below hU) (hs.below hU)
        have h4 := hok.2.1
        have hn64 := hok.1.2
        have HIL := Lib.hid hi.1
        have HF := Lib.hid hok.2.2.1
        have HSM : Hid (m = manyWo is 2 + manyWo is 3) := Lib.hid (by have := hs.1; have := hok.2.2.2.1; omega)
        have HE2 := Lib.hid fun k (hk : k < 4) => show countWo is st ((k : Nat) : Int) = ((manyWo is (k : Int) : Int), 0) from if_pos ⟨hok, by omega, by omega⟩
        have HLE := Lib.hid fun k => sum_le is k
        have H4 := Lib.hid (sum_four h4)
        have HN64 := Lib.hid hn64
        clear hi hs hok hn64 h4
        obtain ⟨kb0, hb0⟩ := lay1 w #[.slice A n a, .slice B m b] 24
        obtain ⟨V, hV⟩ : ∃ V, w.alloc (.cells #[.slice A n a, .slice B m b] 24) = V := ⟨_, rfl⟩
        rw [hV] at hb0 kb0
        have HV := Lib.hid hV
        have BB := Lib.hid hb0
        have KD := Lib.hid kb0
        have HBD : Hid (w.heap.size ≤ w.heap.size) := Lib.hid (by omega)
        clear hV hb0 kb0
        go_enter Try.func5, Try.ntmps5
        go_upto_region 1 with fail
        rw [HV.out]
        clear HV
        go_wp2_with fail
        refine (live_wo _).mono ?_
        try dsimp only
        rintro e U1 ⟨rfl, bU1⟩
        replace KD := Lib.hid (KD.out.below bU1 KD.out.lt)
        replace BB := Lib.hid (below3 BB.out bU1)
        clear bU1
        obtain ⟨qD_0, qD_1⟩ := KD.out.c2w
        have lD := KD.out.lt
        go_upto_region 8 with fail
        have k6 : BkI (U1.alloc (.cells #[.int .i64 0, .int .i64 0, .int .i64 0, .int .i64 0] 41)) U1.heap.size 41 (fourL is 0) := by rw [fourL_zero]; exact Bk.new U1 41 #[.int .i64 0, .int .i64 0, .int .i64 0, .int .i64 0]
        have ba := (Below.refl U1.heap.size U1).alloc (Nat.le_refl _) (.cells #[.int .i64 0, .int .i64 0, .int .i64 0, .int .i64 0] 41)
        have ned := Nat.ne_of_lt KD.out.lt
        have hgb := BB.out.size
        replace KD := Lib.hid (KD.out.below ba KD.out.lt)
        replace BB := Lib.hid (below3 BB.out ba)
        clear ba
        obtain ⟨W, hW⟩ : ∃ W, U1.alloc (.cells #[.int .i64 0, .int .i64 0, .int .i64 0, .int .i64 0] 41) = W := ⟨_, rfl⟩
        obtain ⟨gY, hg⟩ : ∃ g, U1.heap.size = g := ⟨_, rfl⟩
        rw [hW] at k6 KD BB
        rw [hg] at k6 ned hgb
        have HW := Lib.hid hW
        have HG := Lib.hid hg
        have KY := Lib.hid k6
        have NED := Lib.hid ned
        have HGB := Lib.hid hgb
        clear hW hg k6 ned hgb
        rw [HW.out, HG.out]
        clear HW HG
        clear qD_0 qD_1 lD
        go_wp2_with fail
        go_loopw [4, 23] (fun u t wr => ∃ k : Nat, k ≤ 4 ∧ u = .int .i64 (sumWo is k : Int) ∧ t = .int .i64 k ∧ Hid (BkI wr gY 41 (fourL is k) ∧ Bk wr w.heap.size 24 #[.slice A n a, .slice B m b] ∧ Below w.heap.size w wr)) (fun _ t _ => 4 - (intOf t).toNat)
        case atStart => exact ⟨0, by omega, rfl, rfl, Lib.hid ⟨KY.out, KD.out, BB.out⟩⟩
        case round =>
          clear KY KD BB
          rename World => wr
          obtain ⟨k, hk, rfl, rfl, OK⟩ := hrel
          by_cases hk4 : k < 4
          · have KD := Lib.hid OK.out.2.1
            have BB := Lib.hid OK.out.2.2
            have KY := Lib.hid OK.out.1
            clear OK
            have hle := HLE.out (k + 1)
            have hs1 : sumWo is (k + 1) = sumWo is k + manyWo is (k : Int) := rfl
            have hn64 := HN64.out
            have hmul : (k + 1) * is.length ≤ 256 := Nat.le_trans (Nat.mul_le_mul (show k + 1 ≤ 4 by omega) hn64) (by omega)
            have hfn := fourL_next (is := is) (k := k)
            have HCK := Lib.hid (HE2.out k hk4)
            obtain ⟨x, hx⟩ : ∃ x, manyWo is (k : Int) = x := ⟨_, rfl⟩
            obtain ⟨s, hs⟩ : ∃ s, sumWo is k = s := ⟨_, rfl⟩
            rw [hx] at hs1 hfn HCK
            rw [hs] at hs1 ⊢
            have e1 : IntKind.i64.wrap ((s : Int) + (x : Int)) = (s : Int) + x := by rw [IntKind.wrap_i64]; omega
            have HS1 := Lib.hid hs1
            have HFN := Lib.hid hfn
            clear hle hs1 hn64 hmul hfn hx hs
            obtain ⟨qD_0, qD_1⟩ := KD.out.c2w
            have lD := KD.out.lt
            go_wp2_with fail
            refine (HC.out _ (k : Int) BB.out).mono ?_
            rw [HCK.out]
            try dsimp only
            rintro e U51 ⟨rfl, bU51⟩
            clear qD_0 qD_1 lD
            replace KD := Lib.hid (KD.out.below bU51 KD.out.lt)
            replace KY := Lib.hid (KY.out.below bU51)
            replace BB := Lib.hid (below3 BB.out bU51)
            clear bU51
            have fz := KY.out.frozen k
            have ly := KY.out.lt
            have y0 := KY.out.setB k (x : Int)
            rw [HFN.out] at y0
            have OK2 : Hid (BkI (U51.setCell ⟨gY, k, none⟩ (.int .i64 (x : Int))) gY 41 (fourL is (k + 1)) ∧ Bk (U51.setCell ⟨gY, k, none⟩ (.int .i64 (x : Int))) w.heap.size 24 #[.slice A n a, .slice B m b] ∧ Below w.heap.size w (U51.setCell ⟨gY, k, none⟩ (.int .i64 (x : Int)))) := Lib.hid ⟨y0, KD.out.far (p := ⟨gY, k, none⟩) NED.out _, BB.out.setCell (p := ⟨gY, k, none⟩) HGB.out _⟩
            have yc := KY.out.at_ (k := k) (by rw [fourL_len]; exact hk4)
            clear y0
            go_wp2_with fail
            go_roundw
            case rel => exact ⟨k + 1, by omega, by rw [HS1.out]; go_num, by go_num, OK2⟩
            case measure => simp [intOf]; omega
          · obtain rfl : k = 4 := by omega
            have KD := Lib.hid OK.out.2.1
            have BB := Lib.hid OK.out.2.2
            have KY := OK.out.1
            rw [fourL_all] at KY
            have hfit := HF.out
            have hsm := HSM.out
            have h4 := H4.out
            have hil := HIL.out
            have ml1 := many_le is 1
            have ml2 := many_le is 2
            have ml3 := many_le is 3
            have hn64 := HN64.out
            unfold fitsWo at hfit
            obtain ⟨c0, e0⟩ : ∃ c, manyWo is 0 = c := ⟨_, rfl⟩
            obtain ⟨c1, e1⟩ : ∃ c, manyWo is 1 = c := ⟨_, rfl⟩
            obtain ⟨c2, e2⟩ : ∃ c, manyWo is 2 = c := ⟨_, rfl⟩
            obtain ⟨c3, e3⟩ : ∃ c, manyWo is 3 = c := ⟨_, rfl⟩
            rw [e0, e1, e2, e3] at KY
            rw [e1, e3] at hfit
            rw [e2, e3] at hsm
            rw [e1] at ml1
            rw [e2] at ml2
            rw [e3] at ml3
            obtain ⟨s, hs⟩ : ∃ s, sumWo is 4 = s := ⟨_, rfl⟩
            rw [hs] at h4 ⊢
            have KY2 : Bk wr gY 41 #[.int .i64 (c0 : Int), .int .i64 (c1 : Int), .int .i64 (c2 : Int), .int .i64 (c3 : Int)] := KY
            obtain ⟨y0, y1, y2, y3⟩ := KY2.c4w
            have ly := KY2.lt
            obtain ⟨q0, q1⟩ := KD.out.c2w
            have lq := KD.out.lt
            have a0 : ((s : Int) == (n : Int)) = true := by simp; omega
            have w1 : IntKind.i64.wrap ((c2 : Int) + (c3 : Int)) = (c2 : Int) + c3 := by rw [IntKind.wrap_i64]; omega
            have a1 : ((m : Int) == (c2 : Int) + (c3 : Int)) = true := by simp; omega
            have w2 : IntKind.i64.wrap (2 * (c1 : Int)) = 2 * (c1 : Int) := by rw [IntKind.wrap_i64]; omega
            have w3 : IntKind.i64.wrap ((s : Int) - (c3 : Int)) = (s : Int) - (c3 : Int) := by rw [IntKind.wrap_i64]; omega
            have w4 : IntKind.i64.wrap ((s : Int) - (c3 : Int) + 1) = (s : Int) - (c3 : Int) + 1 := by rw [IntKind.wrap_i64]; omega
            have a2 : decide (2 * (c1 : Int) ≤ (s : Int) - (c3 : Int) + 1) = true := decide_eq_true (by omega)
            clear OK KY KY2 hfit hsm h4 hil ml1 ml2 ml3 hn64 e0 e1 e2 e3 hs
            go_wp2_with fail
            go_ret
            exact ⟨rfl, BB.out⟩
      · have t0 : decide (100 < (n : Int)) = false := decide_eq_false (by omega)
        have t1 : decide (100 < (m : Int)) = false := decide_eq_false (by omega)
        have HC := Lib.hid fun U what hU => count_wo A B n a m b is st what U (hi.below hU) (hs.below hU)
        have HK := Lib.hid fun U hU => check_wo A B n a m b is st U (hi.below hU) (hs.below hU)
        have HE : Hid (chkWo is st = 1) := Lib.hid (if_neg hok)
        have HE2 : Hid (countWo is st 0 = (0, 1)) := Lib.hid (if_neg fun q => hok q.1)
        clear hi hs hok
        obtain ⟨kb0, hb0⟩ := lay1 w #[.slice A n a, .slice B m b] 24
        obtain ⟨V, hV⟩ : ∃ V, w.alloc (.cells #[.slice A n a, .slice B m b] 24) = V := ⟨_, rfl⟩
        rw [hV] at hb0 kb0
        have HV := Lib.hid hV
        have BB := Lib.hid hb0
        have KD := Lib.hid kb0
        have HBD : Hid (w.heap.size ≤ w.heap.size) := Lib.hid (by omega)
        clear hV hb0 kb0
        go_enter Try.func5, Try.ntmps5
        go_upto_region 1 with fail
        rw [HV.out]
        clear HV
        go_wp2_with fail
        refine (live_wo _).mono ?_
        try dsimp only
        rintro e U1 ⟨rfl, bU1⟩
        replace KD := Lib.hid (KD.out.below bU1 KD.out.lt)
        replace BB := Lib.hid (below3 BB.out bU1)
        clear bU1
        obtain ⟨qD_0, qD_1⟩ := KD.out.c2w
        have lD := KD.out.lt
        go_upto_region 8 with fail
        have k6 := Bk.new U1 41 #[.int .i64 0, .int .i64 0, .int .i64 0, .int .i64 0]
        have ba := (Below.refl U1.heap.size U1).alloc (Nat.le_refl _) (.cells #[.int .i64 0, .int .i64 0, .int .i64 0, .int .i64 0] 41)
        clear k6
        replace KD := Lib.hid (KD.out.below ba KD.out.lt)
        replace BB := Lib.hid (below3 BB.out ba)
        clear ba
        clear qD_0 qD_1 lD
        obtain ⟨qD_0, qD_1⟩ := KD.out.c2w
        have lD := KD.out.lt
        go_wp2_with fail
        go_loopw [4, 23] (fun u t wr => u = .int .i64 0 ∧ t = .int .i64 0 ∧ wr = (U1.alloc (.cells #[.int .i64 0, .int .i64 0, .int .i64 0, .int .i64 0] 41))) (fun _ _ _ => 0)
        case atStart => exact ⟨rfl, rfl, rfl⟩
        case round =>
          obtain ⟨rfl, rfl, rfl⟩ := hrel
          go_wp2_with fail
          refine (HC.out _ 0 BB.out).mono ?_
          rw [HE2.out]
          try dsimp only
          rintro e U32 ⟨rfl, bU32⟩
          replace KD := Lib.hid (KD.out.below bU32 KD.out.lt)
          replace BB := Lib.hid (below3 BB.out bU32)
          clear bU32
          obtain ⟨qD_0, qD_1⟩ := KD.out.c2w
          have lD := KD.out.lt
          go_wp2_with fail
          refine (HK.out _ BB.out).mono ?_
          rw [HE.out]
          try dsimp only
          rintro e U33 ⟨rfl, bU33⟩
          clear qD_0 qD_1 lD
          replace KD := Lib.hid (KD.out.below bU33 KD.out.lt)
          replace BB := Lib.hid (below3 BB.out bU33)
          clear bU33
          go_wp2_with fail
          go_ret
          exact ⟨rfl, BB.out⟩

end Go.Proofs.Ytmndkofdoclihaa

/-
  Layer 19: the law EntryOnly: those of each kind, taken together, are all, each once.
-/
import Derived.Test.YtpfnoohcilefhaaElv
namespace Go.Proofs.Ytpfnoohcilefhaa
open Go.RowKit

set_option maxHeartbeats 4000000 in
theorem leonly_any (A : Option Addr) (n c : Nat) (l : List I3) (w : World) (hl : Prog w A n c l) :
    Calls Try.prog 7 #[.slice A n c] w (RetB (.bool true) w) := by
  have HL := Lib.hid hl
  have LX := Lib.hid hl.1
  have hnc := hl.2.1
  clear hl
  by_cases h1 : n ≤ 500
  · have hn5 := h1
    have t0 : decide (500 < (n : Int)) = false := decide_eq_false (by omega)
    have t0n : decide (500 < n) = false := decide_eq_false (by omega)
    clear h1
    have BB := Lib.hid (Below.refl w.heap.size w)
    go_enter Try.func7, Try.ntmps7
    go_wp2_with fail
    refine (live19_any _).mono ?_
    try dsimp only
    rintro e U1 ⟨rfl, bU1⟩
    replace BB := Lib.hid (below3 BB.out bU1)
    clear bU1
    go_wp2_with fail
    go_loopw [4, 5] (fun u t wr => ∃ k : Nat, k ≤ 8 ∧ t = .int .i64 k ∧ u = .int .i64 (cntE l k : Int) ∧ Hid (Below w.heap.size w wr)) (fun _ t _ => 8 - (intOf t).toNat)
    case atStart => exact ⟨0, by omega, rfl, rfl, BB⟩
    case round =>
      clear BB
      rename World => wr
      obtain ⟨k, hk, rfl, rfl, BB⟩ := hrel
      by_cases hk7 : k < 8
      · have t7 : decide ((k : Int) ≤ 7) = true := decide_eq_true (by omega)
        have t7n : decide (k ≤ 7) = true := decide_eq_true (by omega)
        obtain ⟨os, hos⟩ : ∃ s, onlyE l (k : Int) = s := ⟨_, rfl⟩
        obtain ⟨s, hs⟩ : ∃ q, os.length = q := ⟨_, rfl⟩
        have hsn : s ≤ n := by rw [← hs, ← hos, ← LX.out]; exact onlyE_len l k
        have hoo : onlyE os (k : Int) = os := by rw [← hos]; exact onlyE_only l k
        have hcn : cntE l (k + 1) = cntE l k + s := by rw [cntE, hos, hs]
        have hle := cntE_le l k
        rw [LX.out] at hle
        obtain ⟨v, hv⟩ : ∃ v, cntE l k = v := ⟨_, rfl⟩
        rw [hv] at hcn hle ⊢
        have HOS := Lib.hid hos
        have HS := Lib.hid hs
        have HOO := Lib.hid hoo
        have HCN := Lib.hid hcn
        have HSP : Hid (sameP os os = true) := Lib.hid (decide_eq_true rfl)
        have HKD : Hid (∀ j, j < s → (ith os j).1 = (k : Int)) := Lib.hid (fun j hj => (onlyE_mem.1 (show ith os j ∈ onlyE l (k : Int) by rw [hos, ith_get (by omega)]; exact List.getElem_mem _)).2)
        clear hos hs hoo hcn hv
        go_wp2_with fail
        refine (only_en A n c l (k : Int) _ (by omega) (HL.out.below BB.out)).mono ?_
        rw [HOS.out]
        unfold NewEn
        rintro e U1 ⟨D1, d1, rfl, ow, b1⟩
        rw [HS.out]
        have T1 := Lib.hid ow.prog
        rw [HS.out] at T1
        replace BB := Lib.hid (below3 BB.out b1)
        clear ow b1
        go_wp2_with fail
        go_loopw [25] (fun t ws => ∃ j : Nat, j ≤ s ∧ t = .int .i64 j ∧ Hid (Below U1.heap.size U1 ws)) (fun t _ => s - (intOf t).toNat)
        case atStart => exact ⟨0, Nat.zero_le _, rfl, Lib.hid (Below.refl _ _)⟩
        case round =>
          rename World => ws
          obtain ⟨j, hj, rfl, BS⟩ := hrel
          by_cases hjs : j < s
          · obtain ⟨b, o, rfl, hb, c0, c1, c2⟩ := (T1.out.below BS.out).at_ hjs
            have hkd := HKD.out j hjs
            obtain ⟨⟨kd, xa, xb⟩, hz⟩ : ∃ e, ith os j = e := ⟨_, rfl⟩
            rw [show jO os j = kd by unfold jO; rw [hz]] at c0
            rw [show jA os j = xa by unfold jA; rw [hz]] at c1
            rw [show jB os j = xb by unfold jB; rw [hz]] at c2
            rw [hz] at hkd
            dsimp only at hkd
            have tk : (kd != (k : Int)) = false := by simpa using hkd
            clear hz hkd
            have kt := Bk.new ws 45 #[.int .i64 kd, .int .i64 xa, .int .i64 xb]
            have ba := (Below.refl ws.heap.size ws).alloc (Nat.le_refl _) (.cells #[.int .i64 kd, .int .i64 xa, .int .i64 xb] 45)
            replace BS := Lib.hid (below3 BS.out ba)
            obtain ⟨WW, hW⟩ : ∃ W, ws.alloc (.cells #[.int .i64 kd, .int .i64 xa, .int .i64 xb] 45) = W := ⟨_, rfl⟩
            obtain ⟨gE, hg⟩ : ∃ g, ws.heap.size = g := ⟨_, rfl⟩
            rw [hW] at kt BS
            rw [hg] at kt
            have HWW := Lib.hid hW
            have HG := Lib.hid hg
            have KE := Lib.hid kt
            clear hW hg kt ba
            go_upto_region 14 with fail
            rw [HWW.out]
            try rw [HG.out]
            clear HWW HG c0 c1 c2 hb
            obtain ⟨q0, q1, q2⟩ := KE.out.c3e
            have lE := KE.out.lt
            go_wp2_with fail
            go_roundw
            case rel => exact ⟨j + 1, by omega, by go_num, BS⟩
            case measure => simp [intOf]; omega
          · have hjq : j = s := by omega
            have T2 := Lib.hid (T1.out.below BS.out)
            replace BB := Lib.hid (BB.out.trans (BS.out.mono BB.out.size))
            subst hjq
            go_wp2_with fail
            refine (only_en _ j d1 os (k : Int) _ (by omega) T2.out).mono ?_
            rw [HOO.out]
            unfold NewEn
            rintro e U2 ⟨D2, d2, rfl, ow, b2⟩
            rw [HS.out]
            have T3 := Lib.hid ow.prog
            rw [HS.out] at T3
            replace T2 := Lib.hid (T2.out.below b2)
            replace BB := Lib.hid (below3 BB.out b2)
            clear ow b2
            go_wp2_with fail
            refine (rsameE_any D2 _ j d2 j d1 os os _ T3.out T2.out).mono ?_
            rw [HSP.out]
            rintro e U3 ⟨rfl, b3⟩
            replace BB := Lib.hid (below3 BB.out b3)
            clear b3 T2 T3
            go_wp2_with fail
            go_roundw
            case rel => exact ⟨k + 1, by omega, by go_num, by rw [HCN.out]; go_num, BB⟩
            case measure => simp [intOf]; omega
      · have hk8 : k = 8 := by omega
        subst hk8
        obtain ⟨v, hv⟩ : ∃ v, cntE l 8 = v := ⟨_, rfl⟩
        have hle := cntE_le l 8
        rw [LX.out, hv] at hle
        rw [hv]
        have t7 : decide ((8 : Int) ≤ 7) = false := by decide
        have tle : decide ((v : Int) ≤ (n : Int)) = true := decide_eq_true (by omega)
        have tlen : decide (v ≤ n) = true := decide_eq_true hle
        by_cases hc : chkE19 l = 0
        · have hall := cntE_all (chkE19_zero hc).2
          rw [hv, LX.out] at hall
          subst hall
          have HCK := Lib.hid hc
          clear hc hv hle
          go_wp2_with fail
          refine (check_en A _ c l _ (HL.out.below BB.out)).mono ?_
          rw [HCK.out]
          rintro e U4 ⟨rfl, b4⟩
          replace BB := Lib.hid (below3 BB.out b4)
          clear b4
          go_wp2_with fail
          go_ret
          exact ⟨rfl, BB.out⟩
        · obtain ⟨ce, hce⟩ : ∃ e, chkE19 l = e := ⟨_, rfl⟩
          have tc : (ce != 0) = true := by rw [hce] at hc; simpa using hc
          have HCK := Lib.hid hce
          clear hc hv hle hce
          go_wp2_with fail
          refine (check_en A _ c l _ (HL.out.below BB.out)).mono ?_
          rw [HCK.out]
          rintro e U4 ⟨rfl, b4⟩
          replace BB := Lib.hid (below3 BB.out b4)
          clear b4
          go_wp2_with fail
          go_ret
          exact ⟨rfl, BB.out⟩
  · have t0 : decide (500 < (n : Int)) = true := decide_eq_true (by omega)
    have t0n : decide (500 < n) = true := decide_eq_true (by omega)
    clear h1
    have BB := Lib.hid (Below.refl w.heap.size w)
    go_enter Try.func7, Try.ntmps7
    go_wp2_with fail
    refine (live19_any _).mono ?_
    try dsimp only
    rintro e U1 ⟨rfl, bU1⟩
    replace BB := Lib.hid (below3 BB.out bU1)
    clear bU1
    go_wp2_with fail
    go_ret
    exact ⟨rfl, BB.out⟩

end Go.Proofs.Ytpfnoohcilefhaa

/-
  Layer 19, the document: Fair.
-/
import Derived.Test.YtpfnoohcilefhaaEna
namespace Go.Proofs.Ytpfnoohcilefhaa
open Go.RowKit

/-- Worker v comes among the first j behind f. -/
def metE (st : List I3) (f v : Nat) : Nat → Bool
  | 0 => false
  | j + 1 => metE st f v j || decide ((ith st (f + j)).2.1 = (v : Int))
theorem metE_iff {st : List I3} {f v : Nat} : ∀ {j : Nat}, metE st f v j = true ↔ ∃ i, f ≤ i ∧ i < f + j ∧ (ith st i).2.1 = (v : Int)
  | 0 => ⟨fun h => (by cases h), fun ⟨i, h1, h2, _⟩ => (by omega)⟩
  | j + 1 => by
    rw [metE, Bool.or_eq_true, metE_iff (j := j), decide_eq_true_iff]
    constructor
    · rintro (⟨i, h1, h2, h3⟩ | h)
      · exact ⟨i, h1, by omega, h3⟩
      · exact ⟨f + j, by omega, by omega, h⟩
    · rintro ⟨i, h1, h2, h3⟩
      by_cases e : i = f + j
      · subst e; exact .inr h3
      · exact .inl ⟨i, h1, by omega, h3⟩
theorem fair_yes {l st : List I3} {W wn S f : Nat} (hr : (1 ≤ (W : Int) ∧ (W : Int) ≤ 64) ∧ 1 ≤ (wn : Int)) (hs : onlyE l 0 = st) (hl : st.length = S) (who : ∀ j, j < S → 0 ≤ (ith st j).2.1 ∧ (ith st j).2.1 < (W : Int)) (hm : ∀ f1, f1 < f → ∀ v : Nat, v < W → metE st f1 v wn = true) (hf : S < f + wn) : fairR l (W : Int) (wn : Int) = (true, 0) := by
  refine fairR_yes hr ?_
  rw [hs, Int.toNat_natCast, Int.toNat_natCast]
  exact ⟨fun j hj => who j (by omega), fun f1 h1 v hv => metE_iff.1 (hm f1 (by omega) v hv)⟩
theorem fair_unmet {l st : List I3} {W wn S f v : Nat} (hr : (1 ≤ (W : Int) ∧ (W : Int) ≤ 64) ∧ 1 ≤ (wn : Int)) (hs : onlyE l 0 = st) (hl : st.length = S) (hf : f + wn ≤ S) (hv : v < W) (hm : metE st f v wn = false) : fairR l (W : Int) (wn : Int) = (false, 0) := by
  refine fairR_bad hr fun q => ?_
  rw [hs, Int.toNat_natCast, Int.toNat_natCast] at q
  have := metE_iff.2 (q.met f (by omega) v hv)
  rw [hm] at this
  cases this
theorem fair_who {l st : List I3} {W wn S k : Nat} (hr : (1 ≤ (W : Int) ∧ (W : Int) ≤ 64) ∧ 1 ≤ (wn : Int)) (hs : onlyE l 0 = st) (hl : st.length = S) (hk : k < S) (hb : ¬ (0 ≤ (ith st k).2.1 ∧ (ith st k).2.1 < (W : Int))) : fairR l (W : Int) (wn : Int) = (false, 0) := by
  refine fairR_bad hr fun q => ?_
  rw [hs, Int.toNat_natCast, Int.toNat_natCast] at q
  exact hb (q.who k (by omega))

set_option maxHeartbeats 8000000 in
theorem rfairE_any (A : Option Addr) (n c : Nat) (l : List I3) (W wd : Int) (w : World) (hwd : wd ≤ 9223372036854775807) (hn : n * 24 ≤ 140737488351232) (hp : Prog w A n c l) :
    Calls Try.prog 19 #[.slice A n c, .int .i64 W, .int .i64 wd] w (RetB (.tuple #[.bool (fairR l W wd).1, .int .i64 (fairR l W wd).2]) w) := by
  have HP := Lib.hid hp
  have LX := Lib.hid hp.1
  have hnc := hp.2.1
  have HN := Lib.hid hn
  clear hp hn
  by_cases hW : 1 ≤ W ∧ W ≤ 64
  · by_cases hw1 : 1 ≤ wd
    · obtain ⟨wn, rfl⟩ : ∃ x : Nat, wd = (x : Int) := ⟨wd.toNat, by omega⟩
      obtain ⟨W, rfl⟩ : ∃ x : Nat, W = (x : Int) := ⟨W.toNat, by omega⟩
      have HRG := Lib.hid (show (1 ≤ (W : Int) ∧ (W : Int) ≤ 64) ∧ 1 ≤ (wn : Int) from ⟨hW, hw1⟩)
      have HIN : Hid ((decide ((1 : Int) ≤ (W : Int)) && decide ((W : Int) ≤ 64)) = true) := Lib.hid (by simp; omega)
      have t1 : decide ((wn : Int) < 1) = false := decide_eq_false (by omega)
      have hW64 : W ≤ 64 := by omega
      have hw1n : 1 ≤ wn := by omega
      obtain ⟨st, hst⟩ : ∃ s, onlyE l 0 = s := ⟨_, rfl⟩
      have HSO := Lib.hid hst
      obtain ⟨S, hS⟩ : ∃ q, st.length = q := ⟨_, rfl⟩
      have HS := Lib.hid hS
      have HKB : Hid (S ≤ 200000000000000) := Lib.hid (by rw [← hS, ← hst]; have := onlyE_len l 0; have := LX.out; have := HN.out; omega)
      have hSb : S ≤ 200000000000000 := HKB.out
      clear hW hw1 hst hS
      go_enter Try.func19, Try.ntmps19
      go_wp2_with fail
      refine (rinE_any W 1 64 _).mono ?_
      rw [HIN.out]
      rintro e u1 ⟨rfl, hw⟩
      subst hw
      go_wp2_with fail
      refine (ronly_any A n c l 0 w HN.out HP.out).mono ?_
      rw [HSO.out]
      unfold NewEn
      rintro e U ⟨D, d, rfl, ow, bU⟩
      rw [HS.out]
      have HST := Lib.hid ow.prog
      rw [HS.out] at HST
      have B0 := Lib.hid bU
      clear ow bU
      go_wp2_with fail
      go_loopw [27] (fun t wr => ∃ k : Nat, k ≤ S ∧ t = .int .i64 k ∧ Hid (∀ j, j < k → 0 ≤ (ith st j).2.1 ∧ (ith st j).2.1 < (W : Int)) ∧ Hid (Below U.heap.size U wr)) (fun t _ => S - (intOf t).toNat)
      case atStart => exact ⟨0, Nat.zero_le _, rfl, Lib.hid (fun j hj => absurd hj (Nat.not_lt_zero _)), Lib.hid (Below.refl _ _)⟩
      case round =>
        rename World => wr
        obtain ⟨k, hk, rfl, OK, BB⟩ := hrel
        by_cases hkn : k < S
        · obtain ⟨b, o, rfl, hb, c0, c1, c2⟩ := (HST.out.below BB.out).at_ hkn
          obtain ⟨⟨kd, xa, xb⟩, hz⟩ : ∃ e, ith st k = e := ⟨_, rfl⟩
          rw [show jO st k = kd by unfold jO; rw [hz]] at c0
          rw [show jA st k = xa by unfold jA; rw [hz]] at c1
          rw [show jB st k = xb by unfold jB; rw [hz]] at c2
          have HZ := Lib.hid hz
          clear hz
          have kt := Bk.new wr 45 #[.int .i64 kd, .int .i64 xa, .int .i64 xb]
          have ba := (Below.refl wr.heap.size wr).alloc (Nat.le_refl _) (.cells #[.int .i64 kd, .int .i64 xa, .int .i64 xb] 45)
          replace BB := Lib.hid (below3 BB.out ba)
          obtain ⟨WW, hW⟩ : ∃ W, wr.alloc (.cells #[.int .i64 kd, .int .i64 xa, .int .i64 xb] 45) = W := ⟨_, rfl⟩
          obtain ⟨gE, hg⟩ : ∃ g, wr.heap.size = g := ⟨_, rfl⟩
          rw [hW] at kt BB
          rw [hg] at kt
          have HWW := Lib.hid hW
          have HG := Lib.hid hg
          have KE := Lib.hid kt
          clear hW hg kt ba
          by_cases h0 : xa < 0
          · have t0 : decide (xa < 0) = true := decide_eq_true h0
            have HBAD : Hid (¬ (0 ≤ xa ∧ xa < (W : Int))) := Lib.hid (fun q => by omega)
            clear h0
            have HFR : Hid (fairR l (W : Int) (wn : Int) = (false, 0)) := Lib.hid (fair_who HRG.out HSO.out HS.out hkn (by rw [HZ.out]; exact HBAD.out))
            go_upto_region 7 with fail
            rw [HWW.out]
            try rw [HG.out]
            clear HWW HG
            obtain ⟨q0, q1, q2⟩ := KE.out.c3e
            have lE := KE.out.lt
            clear c0 c1 c2 hb
            go_wp2_with fail
            exact bodyPost_ret (results_tmp2 rfl _ _ _) rfl (by rw [HFR.out]; exact ⟨rfl, B0.out.trans (BB.out.mono B0.out.size)⟩)
          · by_cases h1 : xa < (W : Int)
            · have t0 : decide (xa < 0) = false := decide_eq_false h0
              have t1 : decide ((W : Int) ≤ xa) = false := decide_eq_false (by omega)
              have OK2 : Hid (∀ j, j < k + 1 → 0 ≤ (ith st j).2.1 ∧ (ith st j).2.1 < (W : Int)) := Lib.hid (fun j hj => by rcases Nat.lt_or_ge j k with q | q; exact OK.out j q; obtain rfl : j = k := (by omega); rw [HZ.out]; show 0 ≤ xa ∧ xa < (W : Int); exact ⟨by omega, h1⟩)
              clear h0 h1
              go_upto_region 7 with fail
              rw [HWW.out]
              try rw [HG.out]
              clear HWW HG
              obtain ⟨q0, q1, q2⟩ := KE.out.c3e
              have lE := KE.out.lt
              clear c0 c1 c2 hb
              go_wp2_with fail
              go_roundw
              case rel => exact ⟨k + 1, by omega, by go_num, OK2, BB⟩
              case measure => simp [intOf]; omega
            · have t0 : decide (xa < 0) = false := decide_eq_false h0
              have t1 : decide ((W : Int) ≤ xa) = true := decide_eq_true (by omega)
              have HBAD : Hid (¬ (0 ≤ xa ∧ xa < (W : Int))) := Lib.hid (fun q => by omega)
              clear h0 h1
              have HFR : Hid (fairR l (W : Int) (wn : Int) = (false, 0)) := Lib.hid (fair_who HRG.out HSO.out HS.out hkn (by rw [HZ.out]; exact HBAD.out))
              go_upto_region 7 with fail
              rw [HWW.out]
              try rw [HG.out]
              clear HWW HG
              obtain ⟨q0, q1, q2⟩ := KE.out.c3e
              have lE := KE.out.lt
              clear c0 c1 c2 hb
              go_wp2_with fail
              exact bodyPost_ret (results_tmp2 rfl _ _ _) rfl (by rw [HFR.out]; exact ⟨rfl, B0.out.trans (BB.out.mono B0.out.size)⟩)
        · obtain rfl : k = S := by omega
          have HWHO := Lib.hid OK.out
          clear OK
          go_wp2_with fail
          go_loopw [11] (fun t ws => ∃ f : Nat, f ≤ k + 1 ∧ t = .int .i64 f ∧ Hid (∀ f1, f1 < f → ∀ v : Nat, v < W → metE st f1 v wn = true) ∧ Hid (Below wr.heap.size wr ws)) (fun t _ => k + 1 - (intOf t).toNat)
          case atStart => exact ⟨0, by omega, rfl, Lib.hid (fun f1 h => absurd h (Nat.not_lt_zero _)), Lib.hid (Below.refl _ _)⟩
          case round =>
            rename World => ws
            obtain ⟨f, hf, rfl, OF, BF⟩ := hrel
            by_cases hfw : f + wn ≤ k
            · have t2 : decide ((wn : Int) ≤ (k : Int)) = true := decide_eq_true (by omega)
              have t2n : decide (wn ≤ k) = true := decide_eq_true (by omega)
              have es : IntKind.i64.wrap ((k : Int) - (wn : Int)) = (k : Int) - (wn : Int) := by rw [IntKind.wrap_i64]; omega
              have t3 : decide ((f : Int) ≤ (k : Int) - (wn : Int)) = true := decide_eq_true (by omega)
              obtain ⟨b9, o9, hD, -, -, -, -⟩ := HST.out.at_ (j := 0) (by omega)
              subst hD
              have hcap := HST.out.2.1
              have hfc : f + wn ≤ d := by omega
              have hnd : ¬ d = f := by omega
              go_wp2_with fail
              go_loopw [56] (fun t wt => ∃ v : Nat, v ≤ W ∧ t = .int .i64 v ∧ Hid (∀ v1, v1 < v → metE st f v1 wn = true) ∧ Hid (Below ws.heap.size ws wt)) (fun t _ => W - (intOf t).toNat)
              case atStart => exact ⟨0, Nat.zero_le _, rfl, Lib.hid (fun f1 h => absurd h (Nat.not_lt_zero _)), Lib.hid (Below.refl _ _)⟩
              case round =>
                rename World => wt
                obtain ⟨v, hv, rfl, OV, BV⟩ := hrel
                by_cases hvW : v < W
                · have ea : IntKind.i64.wrap ((f : Int) + (wn : Int)) = ((f + wn : Nat) : Int) := by rw [IntKind.wrap_i64]; omega
                  have eb : f + wn - f = wn := by omega
                  have HS3 := Lib.hid (((HST.out.below BB.out).below BF.out).below BV.out)
                  go_wp2_with fail
                  go_loopw [13, 66] (fun u t wx => ∃ j : Nat, j ≤ wn ∧ t = .int .i64 j ∧ u = .bool (metE st f v j) ∧ Hid (Below wt.heap.size wt wx)) (fun _ t _ => wn - (intOf t).toNat)
                  case atStart => exact ⟨0, Nat.zero_le _, rfl, rfl, Lib.hid (Below.refl _ _)⟩
                  case round =>
                    rename World => wx
                    obtain ⟨j, hj, rfl, rfl, BX⟩ := hrel
                    by_cases hjw : j < wn
                    · obtain ⟨b8, o8, e8, hb, c0, c1, c2⟩ := (HS3.out.below BX.out).at_ (j := f + j) (by omega)
                      injection e8 with e8
                      injection e8 with e6 e7 _
                      subst e6 e7
                      obtain ⟨⟨kd, xa, xb⟩, hz⟩ : ∃ e, ith st (f + j) = e := ⟨_, rfl⟩
                      rw [show jO st (f + j) = kd by unfold jO; rw [hz]] at c0
                      rw [show jA st (f + j) = xa by unfold jA; rw [hz]] at c1
                      rw [show jB st (f + j) = xb by unfold jB; rw [hz]] at c2
                      have eo : o9 + (f + j) * 3 = o9 + f * 3 + j * 3 := by omega
                      rw [eo] at c0 c1 c2
                      have hnx : metE st f v (j + 1) = (metE st f v j || decide (xa = (v : Int))) := by rw [metE, hz]
                      obtain ⟨mv, hmv⟩ : ∃ m, metE st f v j = m := ⟨_, rfl⟩
                      rw [hmv] at hnx ⊢
                      clear hmv eo hz
                      have kt := Bk.new wx 45 #[.int .i64 kd, .int .i64 xa, .int .i64 xb]
                      have ba := (Below.refl wx.heap.size wx).alloc (Nat.le_refl _) (.cells #[.int .i64 kd, .int .i64 xa, .int .i64 xb] 45)
                      replace BX := Lib.hid (below3 BX.out ba)
                      obtain ⟨WW, hW⟩ : ∃ W, wx.alloc (.cells #[.int .i64 kd, .int .i64 xa, .int .i64 xb] 45) = W := ⟨_, rfl⟩
                      obtain ⟨gE, hg⟩ : ∃ g, wx.heap.size = g := ⟨_, rfl⟩
                      rw [hW] at kt BX
                      rw [hg] at kt
                      have HWW := Lib.hid hW
                      have HG := Lib.hid hg
                      have KE := Lib.hid kt
                      clear hW hg kt ba
                      cases mv
                      · by_cases hxv : xa = (v : Int)
                        · have tx : (xa == (v : Int)) = true := by simpa using hxv
                          have HNX : Hid (metE st f v (j + 1) = true) := Lib.hid (by rw [hnx, decide_eq_true hxv]; rfl)
                          clear hxv hnx
                          go_upto_region 20 with fail
                          rw [HWW.out]
                          try rw [HG.out]
                          clear HWW HG
                          obtain ⟨q0, q1, q2⟩ := KE.out.c3e
                          have lE := KE.out.lt
                          clear c0 c1 c2 hb
                          go_wp2_with fail
                          go_roundw
                          case rel => exact ⟨j + 1, by omega, by go_num, by rw [HNX.out], BX⟩
                          case measure => simp [intOf]; omega
                        · have tx : (xa == (v : Int)) = false := by simpa using hxv
                          have HNX : Hid (metE st f v (j + 1) = false) := Lib.hid (by rw [hnx, decide_eq_false hxv]; rfl)
                          clear hxv hnx
                          go_upto_region 20 with fail
                          rw [HWW.out]
                          try rw [HG.out]
                          clear HWW HG
                          obtain ⟨q0, q1, q2⟩ := KE.out.c3e
                          have lE := KE.out.lt
                          clear c0 c1 c2 hb
                          go_wp2_with fail
                          go_roundw
                          case rel => exact ⟨j + 1, by omega, by go_num, by rw [HNX.out], BX⟩
                          case measure => simp [intOf]; omega
                      · have HNX : Hid (metE st f v (j + 1) = true) := Lib.hid (by rw [hnx]; rfl)
                        clear hnx
                        go_upto_region 20 with fail
                        rw [HWW.out]
                        try rw [HG.out]
                        clear HWW HG
                        obtain ⟨q0, q1, q2⟩ := KE.out.c3e
                        have lE := KE.out.lt
                        clear c0 c1 c2 hb
                        go_wp2_with fail
                        go_roundw
                        case rel => exact ⟨j + 1, by omega, by go_num, by rw [HNX.out], BX⟩
                        case measure => simp [intOf]; omega
                    · obtain rfl : j = wn := by omega
                      obtain ⟨mv, hmv⟩ : ∃ m, metE st f v j = m := ⟨_, rfl⟩
                      rw [hmv]
                      cases mv
                      · have HFR : Hid (fairR l (W : Int) (j : Int) = (false, 0)) := Lib.hid (fair_unmet HRG.out HSO.out HS.out hfw hvW hmv)
                        clear hmv
                        go_wp2_with fail
                        exact bodyPost_ret (results_tmp2 rfl _ _ _) rfl (by rw [HFR.out]; exact ⟨rfl, (B0.out.trans ((BB.out.trans ((BF.out.trans ((BV.out.trans (BX.out.mono BV.out.size)).mono BF.out.size)).mono BB.out.size)).mono B0.out.size))⟩)
                      · have OV2 : Hid (∀ v1, v1 < v + 1 → metE st f v1 j = true) := Lib.hid (fun v1 h => by rcases Nat.lt_or_ge v1 v with q | q; exact OV.out v1 q; obtain rfl : v1 = v := (by omega); exact hmv)
                        clear hmv
                        have BVX := Lib.hid (below3 BV.out BX.out)
                        go_wp2_with fail
                        go_roundw
                        case rel => exact ⟨v + 1, by omega, by go_num, OV2, BVX⟩
                        case measure => simp [intOf]; omega
                · obtain rfl : v = W := by omega
                  have OF2 : Hid (∀ f1, f1 < f + 1 → ∀ v1 : Nat, v1 < v → metE st f1 v1 wn = true) := Lib.hid (fun f1 h => by rcases Nat.lt_or_ge f1 f with q | q; exact OF.out f1 q; obtain rfl : f1 = f := (by omega); exact OV.out)
                  have BFV := Lib.hid (below3 BF.out BV.out)
                  go_wp2_with fail
                  go_roundw
                  case rel => exact ⟨f + 1, by omega, by go_num, OF2, BFV⟩
                  case measure => simp [intOf]; omega
            · have HFR : Hid (fairR l (W : Int) (wn : Int) = (true, 0)) := Lib.hid (fair_yes HRG.out HSO.out HS.out HWHO.out OF.out (by omega))
              by_cases hwk : wn ≤ k
              · have t2 : decide ((wn : Int) ≤ (k : Int)) = true := decide_eq_true (by omega)
                have t2n : decide (wn ≤ k) = true := decide_eq_true (by omega)
                have es : IntKind.i64.wrap ((k : Int) - (wn : Int)) = (k : Int) - (wn : Int) := by rw [IntKind.wrap_i64]; omega
                have t3 : decide ((f : Int) ≤ (k : Int) - (wn : Int)) = false := decide_eq_false (by omega)
                clear hwk
                go_wp2_with fail
                exact bodyPost_ret (results_tmp2 rfl _ _ _) rfl (by rw [HFR.out]; exact ⟨rfl, (B0.out.trans ((BB.out.trans (BF.out.mono BB.out.size)).mono B0.out.size))⟩)
              · have t2 : decide ((wn : Int) ≤ (k : Int)) = false := decide_eq_false (by omega)
                have t2n : decide (wn ≤ k) = false := decide_eq_false (by omega)
                clear hwk
                go_wp2_with fail
                exact bodyPost_ret (results_tmp2 rfl _ _ _) rfl (by rw [HFR.out]; exact ⟨rfl, (B0.out.trans ((BB.out.trans (BF.out.mono BB.out.size)).mono B0.out.size))⟩)
    · rw [fairR_no (fun q => hw1 q.2)]
      have HIN : Hid ((decide ((1 : Int) ≤ W) && decide (W ≤ 64)) = true) := Lib.hid (by simp; omega)
      have t1 : decide (wd < 1) = true := decide_eq_true (by omega)
      clear hW hw1
      go_enter Try.func19, Try.ntmps19
      go_wp2_with fail
      refine (rinE_any W 1 64 _).mono ?_
      rw [HIN.out]
      rintro e u1 ⟨rfl, hw⟩
      subst hw
      go_wp2_with fail
      exact bodyPost_ret (results_tmp2 rfl _ _ _) rfl (by exact ⟨rfl, Below.refl _ _⟩)
  · rw [fairR_no (fun q => hW q.1)]
    have HIN : Hid ((decide ((1 : Int) ≤ W) && decide (W ≤ 64)) = false) := Lib.hid (by simp; omega)
    clear hW
    go_enter Try.func19, Try.ntmps19
    go_wp2_with fail
    refine (rinE_any W 1 64 _).mono ?_
    rw [HIN.out]
    rintro e u1 ⟨rfl, hw⟩
    subst hw
    go_wp2_with fail
    exact bodyPost_ret (results_tmp2 rfl _ _ _) rfl (by exact ⟨rfl, Below.refl _ _⟩)

end Go.Proofs.Ytpfnoohcilefhaa

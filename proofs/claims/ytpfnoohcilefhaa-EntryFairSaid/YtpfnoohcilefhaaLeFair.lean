/-
  Layer 19: the law EntryFair: a script that is fair in a window is so in longer ones, and a part of it, too.
-/
import Derived.Test.YtpfnoohcilefhaaElv
namespace Go.Proofs.Ytpfnoohcilefhaa
open Go.RowKit

theorem cutE_at {cut : Int} {n : Nat} (hn : n ≤ 200) : wrap64 ((n : Int) + 1) ≠ 0 ∧ ∃ k : Nat, k ≤ n ∧ (wrap64 (wrap64 (cut.tmod (wrap64 ((n : Int) + 1)) + (n : Int)) + 1)).tmod (wrap64 ((n : Int) + 1)) = (k : Int) := by
  have w1 : wrap64 ((n : Int) + 1) = (n : Int) + 1 := by unfold wrap64; omega
  have h1 : cut.tmod ((n : Int) + 1) < (n : Int) + 1 := Int.tmod_lt_of_pos cut (by omega)
  have h2 : -((n : Int) + 1) < cut.tmod ((n : Int) + 1) := by
    have h3 := Int.neg_tmod cut ((n : Int) + 1)
    have h4 := Int.tmod_lt_of_pos (-cut) (show (0 : Int) < (n : Int) + 1 by omega)
    omega
  rw [w1]
  refine ⟨by omega, ?_⟩
  have w2 : wrap64 (cut.tmod ((n : Int) + 1) + (n : Int)) = cut.tmod ((n : Int) + 1) + (n : Int) := by unfold wrap64; omega
  rw [w2]
  have w3 : wrap64 (cut.tmod ((n : Int) + 1) + (n : Int) + 1) = cut.tmod ((n : Int) + 1) + (n : Int) + 1 := by unfold wrap64; omega
  rw [w3]
  have h5 := Int.tmod_nonneg ((n : Int) + 1) (show 0 ≤ cut.tmod ((n : Int) + 1) + (n : Int) + 1 by omega)
  have h6 := Int.tmod_lt_of_pos (cut.tmod ((n : Int) + 1) + (n : Int) + 1) (show (0 : Int) < (n : Int) + 1 by omega)
  exact ⟨((cut.tmod ((n : Int) + 1) + (n : Int) + 1).tmod ((n : Int) + 1)).toNat, by omega, by omega⟩

theorem dropE_prog {w : World} {D : Option Addr} {S d k : Nat} {st : List I3} (h : Prog w D S d st) (hk : k ≤ S) : Prog w (Option.map (fun x => x.add (k * 3)) D) (S - k) (d - k) (st.drop k) := by
  have h1 := h.1
  have h2 := h.2.1
  refine ⟨by rw [List.length_drop]; omega, by omega, fun x hx => h.2.2.1 x (List.mem_of_mem_drop hx), fun hn => ?_⟩
  obtain ⟨b, o, e, hb, hc⟩ := h.2.2.2 (by omega)
  subst e
  refine ⟨b, o + k * 3, by simp [Addr.add], hb, fun j hj => ?_⟩
  obtain ⟨c0, c1, c2⟩ := hc (k + j) (by omega)
  unfold jO jA jB at *
  rw [ith_dropE (by omega), show o + k * 3 + j * 3 = o + (k + j) * 3 by omega]
  exact ⟨c0, c1, c2⟩
theorem onlyE_all {l : List I3} (h : ∀ x ∈ l, x.1 = 0) : onlyE l 0 = l := by
  unfold onlyE
  rw [List.filter_eq_self]
  intro x hx
  simp [h x hx]
theorem onlyE_zero {l st : List I3} (h : onlyE l 0 = st) : ∀ x ∈ st, x.1 = 0 := fun x hx => by rw [← h] at hx; exact (onlyE_mem.1 hx).2
theorem fair_part {p : List I3} {W wn : Nat} (hr : (1 ≤ (W : Int) ∧ (W : Int) ≤ 64) ∧ 1 ≤ (wn : Int)) (h0 : ∀ x ∈ p, x.1 = 0) (hf : FairP p W wn) : fairR p (W : Int) (wn : Int) = (true, 0) :=
  fairR_yes hr (by rw [onlyE_all h0, Int.toNat_natCast, Int.toNat_natCast]; exact hf)
/-- Each worker in turn, k of them. -/
def turnE (W : Nat) : Nat → List I3
  | 0 => []
  | k + 1 => turnE W k ++ [(0, ((k % W : Nat) : Int), 0)]
theorem turnE_len (W : Nat) : ∀ k, (turnE W k).length = k
  | 0 => rfl
  | k + 1 => by rw [turnE, List.length_append, turnE_len W k]; rfl
theorem turnE_at (W : Nat) : ∀ k j, j < k → ith (turnE W k) j = (0, ((j % W : Nat) : Int), 0)
  | 0, j, h => by omega
  | k + 1, j, h => by
    rw [turnE]
    have hl := turnE_len W k
    by_cases e : j < k
    · rw [ith_get (by rw [List.length_append]; omega), List.getElem_append_left (by omega), ← ith_get (by omega)]
      exact turnE_at W k j e
    · obtain rfl : j = k := by omega
      rw [ith_get (by rw [List.length_append, hl]; simp), List.getElem_append_right (by omega)]
      simp [hl]
theorem turnE_zero (W : Nat) : ∀ k, ∀ x ∈ turnE W k, x.1 = 0
  | 0, x, h => by cases h
  | k + 1, x, h => by
    rw [turnE, List.mem_append] at h
    rcases h with h | h
    · exact turnE_zero W k x h
    · simp at h; rw [h]
theorem turn_fair {W k : Nat} (hW : 1 ≤ W) (h64 : W ≤ 64) : fairR (turnE W k) (W : Int) (W : Int) = (true, 0) :=
  fair_part ⟨⟨by omega, by omega⟩, by omega⟩ (turnE_zero W k) (FairP.round (by omega) fun j hj => by rw [turnE_len] at hj; rw [turnE_at W k j hj])
theorem dropE_end {w : World} {D : Option Addr} {S d k : Nat} {st : List I3} (h : Prog w D S d st) (hk : k ≤ S) (hd : d = k) : Prog w D (S - k) (d - k) (st.drop k) := by
  have h1 := h.1
  have h2 := h.2.1
  exact ⟨by rw [List.length_drop]; omega, by omega, fun x hx => h.2.2.1 x (List.mem_of_mem_drop hx), fun hn => by omega⟩

set_option maxRecDepth 100000 in
set_option maxHeartbeats 8000000 in
theorem lefair_any (A : Option Addr) (n c : Nat) (l : List I3) (W wd mo cut : Int) (w : World) (hl : Prog w A n c l) :
    Calls Try.prog 6 #[.slice A n c, .int .i64 W, .int .i64 wd, .int .i64 mo, .int .i64 cut] w (RetB (.bool true) w) := by
  have HL := Lib.hid hl
  have LX := Lib.hid hl.1
  have hnc := hl.2.1
  clear hl
  by_cases h0 : (n : Int) ≤ 200
  · by_cases h1 : 1 ≤ wd
    · by_cases h2 : wd ≤ 500
      · by_cases h3 : 0 ≤ mo
        · by_cases h4 : mo ≤ 500
          · by_cases h5 : 1 ≤ W
            · by_cases h6 : W ≤ 64
              · have t0 : decide (200 < (n : Int)) = false := decide_eq_false (by omega)
                have t0n : decide (200 < n) = false := decide_eq_false (by omega)
                have t1 : decide (wd < 1) = false := decide_eq_false (by omega)
                have t2 : decide (500 < wd) = false := decide_eq_false (by omega)
                have t3 : decide (mo < 0) = false := decide_eq_false (by omega)
                have t4 : decide (500 < mo) = false := decide_eq_false (by omega)
                have t5 : decide (W < 1) = false := decide_eq_false (by omega)
                have t6 : decide (64 < W) = false := decide_eq_false (by omega)
                obtain ⟨Wn, rfl⟩ : ∃ x : Nat, W = (x : Int) := ⟨W.toNat, by omega⟩
                obtain ⟨wn, rfl⟩ : ∃ x : Nat, wd = (x : Int) := ⟨wd.toNat, by omega⟩
                obtain ⟨mn, rfl⟩ : ∃ x : Nat, mo = (x : Int) := ⟨mo.toNat, by omega⟩
                have hb1 : n ≤ 200 := by omega
                have hb2 : wn ≤ 500 := by omega
                have hb3 : mn ≤ 500 := by omega
                have hb4 : Wn ≤ 64 := by omega
                have hb5 : 1 ≤ Wn := by omega
                have hb6 : 1 ≤ wn := by omega
                clear h0 h1 h2 h3 h4 h5 h6
                obtain ⟨sts, hst⟩ : ∃ s, onlyE l 0 = s := ⟨_, rfl⟩
                have HST := Lib.hid hst
                obtain ⟨S, hS⟩ : ∃ q, sts.length = q := ⟨_, rfl⟩
                have HS := Lib.hid hS
                have hSn : S ≤ n := by rw [← hS, ← hst, ← LX.out]; exact onlyE_len l 0
                have HFO : Hid (fairR sts (Wn : Int) (wn : Int) = fairR l (Wn : Int) (wn : Int)) := Lib.hid (by rw [← hst]; exact fairR_only _ _ _)
                have HRG : Hid ((1 ≤ (Wn : Int) ∧ (Wn : Int) ≤ 64) ∧ 1 ≤ (wn : Int)) := Lib.hid (by omega)
                clear hst hS
                by_cases hf : FairP sts Wn wn
                · have HF1 : Hid (fairR l (Wn : Int) (wn : Int) = (true, 0)) := Lib.hid (fairR_yes HRG.out (by rw [HST.out]; exact hf))
                  have HF2 : Hid (fairR l (Wn : Int) ((wn : Int) + (mn : Int)) = (true, 0)) := Lib.hid (fairR_yes ⟨HRG.out.1, by omega⟩ (by rw [HST.out, show ((wn : Int) + (mn : Int)).toNat = wn + mn by omega]; exact hf.more (by omega)))
                  obtain ⟨hz, k, hkS, hk⟩ := cutE_at (cut := cut) (n := S) (by omega)
                  rw [show wrap64 ((S : Int) + 1) = (S : Int) + 1 by unfold wrap64; omega] at hz hk
                  have HF3 : Hid (fairR (sts.drop k) (Wn : Int) (wn : Int) = (true, 0)) := Lib.hid (fair_part HRG.out (fun x hx => onlyE_zero HST.out x (List.mem_of_mem_drop hx)) (hf.drop k))
                  have HF4 : Hid (fairR (sts.take k) (Wn : Int) (wn : Int) = (true, 0)) := Lib.hid (fair_part HRG.out (fun x hx => onlyE_zero HST.out x (List.mem_of_mem_take hx)) (hf.take k))
                  clear hf
                  have BB := Lib.hid (Below.refl w.heap.size w)
                  go_enter Try.func6, Try.ntmps6
                  go_wp2_with fail
                  refine (live19_any _).mono ?_
                  try dsimp only
                  rintro e U1 ⟨rfl, bU1⟩
                  replace BB := Lib.hid (below3 BB.out bU1)
                  clear bU1
                  go_wp2_with fail
                  refine (fair_en A n c l (Wn : Int) (wn : Int) _ (by omega) (by omega) (HL.out.below BB.out)).mono ?_
                  rw [HF1.out]
                  try dsimp only
                  rintro e U2 ⟨rfl, bU2⟩
                  replace BB := Lib.hid (below3 BB.out bU2)
                  clear bU2
                  go_wp2_with fail
                  refine (only_en A n c l 0 _ (by omega) (HL.out.below BB.out)).mono ?_
                  unfold NewEn
                  rw [HST.out]
                  try dsimp only
                  rintro e U3 ⟨D1, d1, rfl, ow, bU3⟩
                  replace BB := Lib.hid (below3 BB.out bU3)
                  clear bU3
                  rw [HS.out]
                  have T1 := Lib.hid ow.prog
                  rw [HS.out] at T1
                  clear ow
                  go_wp2_with fail
                  refine (fair_en D1 S d1 sts (Wn : Int) (wn : Int) _ (by omega) (by omega) T1.out).mono ?_
                  rw [HFO.out]
                  rw [HF1.out]
                  try dsimp only
                  rintro e U4 ⟨rfl, bU4⟩
                  replace T1 := Lib.hid (T1.out.below bU4)
                  replace BB := Lib.hid (below3 BB.out bU4)
                  clear bU4
                  go_wp2_with fail
                  refine (fair_en A n c l (Wn : Int) ((wn : Int) + (mn : Int)) _ (by omega) (by omega) (HL.out.below BB.out)).mono ?_
                  rw [HF2.out]
                  try dsimp only
                  rintro e U5 ⟨rfl, bU5⟩
                  replace T1 := Lib.hid (T1.out.below bU5)
                  replace BB := Lib.hid (below3 BB.out bU5)
                  clear bU5
                  by_cases hdk : d1 = k
                  · have hSk : S = k := by have := T1.out.2.1; omega
                    subst hSk
                    subst hdk
                    have P1 := dropE_end T1.out (Nat.le_refl _) rfl
                    rw [Nat.sub_self] at P1
                    have HP1 := Lib.hid P1
                    clear P1
                    go_wp2_with fail
                    refine (fair_en D1 0 0 (sts.drop d1) (Wn : Int) (wn : Int) _ (by omega) (by omega) HP1.out).mono ?_
                    rw [HF3.out]
                    try dsimp only
                    rintro e U6 ⟨rfl, bU6⟩
                    replace T1 := Lib.hid (T1.out.below bU6)
                    replace HP1 := Lib.hid (HP1.out.below bU6)
                    replace BB := Lib.hid (below3 BB.out bU6)
                    clear bU6
                    go_wp2_with fail
                    refine (fair_en D1 d1 d1 (sts.take d1) (Wn : Int) (wn : Int) _ (by omega) (by omega) (T1.out.take (by omega))).mono ?_
                    rw [HF4.out]
                    try dsimp only
                    rintro e U7 ⟨rfl, bU7⟩
                    replace T1 := Lib.hid (T1.out.below bU7)
                    replace HP1 := Lib.hid (HP1.out.below bU7)
                    replace BB := Lib.hid (below3 BB.out bU7)
                    clear bU7
                    clear HP1 T1
                    have BB2 := Lib.hid BB.out
                    go_wp2_with fail
                    go_loopw [23, 150] (fun u t wr => ∃ (q : Nat) (D : Option Addr) (d : Nat), q ≤ 3 * Wn ∧ t = .int .i64 q ∧ u = .slice D q d ∧ Hid (Below w.heap.size w wr) ∧ Hid (OwnP 45 wr w.heap.size D d (turnE Wn q))) (fun _ t _ => 3 * Wn - (intOf t).toNat)
                    case atStart => exact ⟨0, none, 0, by omega, rfl, rfl, BB2, Lib.hid (OwnP.nil_ _ _ _)⟩
                    case round =>
                      rename World => wr
                      obtain ⟨q, D, d, hq, rfl, rfl, BR, OD⟩ := hrel
                      by_cases hqn : q < 3 * Wn
                      · obtain ⟨z, hz⟩ : ∃ z : Nat, q % Wn = z := ⟨_, rfl⟩
                        have hqm : ((q : Int)).tmod (Wn : Int) = (z : Int) := by rw [Int.tmod_eq_emod_of_nonneg (by omega), ← hz]; rfl
                        have hqe : (q : Int) % (Wn : Int) = (z : Int) := by rw [← hz]; rfl
                        have hwz : (Wn : Int) ≠ 0 := by omega
                        have hwn0 : ¬ Wn = 0 := by omega
                        have hwb : ((Wn : Int) == 0) = false := by simp; omega
                        have FX : Hid (FitI (0, (z : Int), 0)) := Lib.hid (by have := Nat.mod_lt q (show 0 < Wn by omega); unfold FitI Fit; dsimp only; omega)
                        have HZ := Lib.hid hz
                        clear hz
                        have hln := turnE_len Wn q
                        have bl := Lib.hid ((Below.refl wr.heap.size wr).alloc (Nat.le_refl _) (.cells #[.int .i64 0, .int .i64 (z : Int), .int .i64 0] 45))
                        have HLN := Lib.hid hln
                        have HLQ : Hid ((turnE Wn q ++ [((0 : Int), (z : Int), (0 : Int))]).length = q + 1) := Lib.hid (by rw [List.length_append, HLN.out]; rfl)
                        clear hln
                        go_wp2_with (at_builtin; refine wpList_append_prog _ rfl _ _ 31 rfl 45 _ rfl Try.underlying31 Try.enInfo w.heap.size D d (turnE Wn q) q HLN.out.symm rfl (OD.out.below bl.out) (some ⟨wr.heap.size, 0, none⟩) 1 1 [(0, (z : Int), 0)] rfl (prog1_en wr 45 FX.out) (by have := HLN.out; omega) (Nat.le_trans BR.out.size bl.out.size) ?_; intro D1 d1 w1 ho hg; have HO := Lib.hid ho; have HB := Lib.hid ((below3 BR.out bl.out).grown hg (Nat.le_trans BR.out.size bl.out.size) (OD.out.blockE)); clear ho hg; rw [HLQ.out])
                        go_roundw
                        case rel => exact ⟨q + 1, D1, d1, by omega, by go_num, by rfl, HB, by rw [turnE, HZ.out]; exact HO⟩
                        case measure => simp [intOf]; omega
                      · have hqq : q = 3 * Wn := by omega
                        have HTF : Hid (fairR (turnE Wn q) (Wn : Int) (Wn : Int) = (true, 0)) := Lib.hid (turn_fair hb5 hb4)
                        have TP := OD.out.prog
                        rw [turnE_len] at TP
                        have HTP := Lib.hid TP
                        clear TP hqq
                        go_wp2_with fail
                        refine (fair_en D q d (turnE Wn q) (Wn : Int) (Wn : Int) _ (by omega) (by omega) HTP.out).mono ?_
                        rw [HTF.out]
                        rintro e U9 ⟨rfl, b9⟩
                        replace BR := Lib.hid (below3 BR.out b9)
                        clear b9
                        go_wp2_with fail
                        go_ret
                        exact ⟨rfl, BR.out⟩
                  · have hkd : k ≤ d1 := by have := T1.out.2.1; omega
                    have hkdi : (k : Int) ≤ (d1 : Int) := by omega
                    have P1 := dropE_prog T1.out hkS
                    have HP1 := Lib.hid P1
                    clear P1
                    go_wp2_with fail
                    refine (fair_en (Option.map (fun x => x.add (k * 3)) D1) (S - k) (d1 - k) (sts.drop k) (Wn : Int) (wn : Int) _ (by omega) (by omega) HP1.out).mono ?_
                    rw [HF3.out]
                    try dsimp only
                    rintro e U6 ⟨rfl, bU6⟩
                    replace T1 := Lib.hid (T1.out.below bU6)
                    replace HP1 := Lib.hid (HP1.out.below bU6)
                    replace BB := Lib.hid (below3 BB.out bU6)
                    clear bU6
                    go_wp2_with fail
                    refine (fair_en D1 k d1 (sts.take k) (Wn : Int) (wn : Int) _ (by omega) (by omega) (T1.out.take (by omega))).mono ?_
                    rw [HF4.out]
                    try dsimp only
                    rintro e U7 ⟨rfl, bU7⟩
                    replace T1 := Lib.hid (T1.out.below bU7)
                    replace HP1 := Lib.hid (HP1.out.below bU7)
                    replace BB := Lib.hid (below3 BB.out bU7)
                    clear bU7
                    clear HP1 T1
                    have BB2 := Lib.hid BB.out
                    go_wp2_with fail
                    go_loopw [23, 150] (fun u t wr => ∃ (q : Nat) (D : Option Addr) (d : Nat), q ≤ 3 * Wn ∧ t = .int .i64 q ∧ u = .slice D q d ∧ Hid (Below w.heap.size w wr) ∧ Hid (OwnP 45 wr w.heap.size D d (turnE Wn q))) (fun _ t _ => 3 * Wn - (intOf t).toNat)
                    case atStart => exact ⟨0, none, 0, by omega, rfl, rfl, BB2, Lib.hid (OwnP.nil_ _ _ _)⟩
                    case round =>
                      rename World => wr
                      obtain ⟨q, D, d, hq, rfl, rfl, BR, OD⟩ := hrel
                      by_cases hqn : q < 3 * Wn
                      · obtain ⟨z, hz⟩ : ∃ z : Nat, q % Wn = z := ⟨_, rfl⟩
                        have hqm : ((q : Int)).tmod (Wn : Int) = (z : Int) := by rw [Int.tmod_eq_emod_of_nonneg (by omega), ← hz]; rfl
                        have hqe : (q : Int) % (Wn : Int) = (z : Int) := by rw [← hz]; rfl
                        have hwz : (Wn : Int) ≠ 0 := by omega
                        have hwn0 : ¬ Wn = 0 := by omega
                        have hwb : ((Wn : Int) == 0) = false := by simp; omega
                        have FX : Hid (FitI (0, (z : Int), 0)) := Lib.hid (by have := Nat.mod_lt q (show 0 < Wn by omega); unfold FitI Fit; dsimp only; omega)
                        have HZ := Lib.hid hz
                        clear hz
                        have hln := turnE_len Wn q
                        have bl := Lib.hid ((Below.refl wr.heap.size wr).alloc (Nat.le_refl _) (.cells #[.int .i64 0, .int .i64 (z : Int), .int .i64 0] 45))
                        have HLN := Lib.hid hln
                        have HLQ : Hid ((turnE Wn q ++ [((0 : Int), (z : Int), (0 : Int))]).length = q + 1) := Lib.hid (by rw [List.length_append, HLN.out]; rfl)
                        clear hln
                        go_wp2_with (at_builtin; refine wpList_append_prog _ rfl _ _ 31 rfl 45 _ rfl Try.underlying31 Try.enInfo w.heap.size D d (turnE Wn q) q HLN.out.symm rfl (OD.out.below bl.out) (some ⟨wr.heap.size, 0, none⟩) 1 1 [(0, (z : Int), 0)] rfl (prog1_en wr 45 FX.out) (by have := HLN.out; omega) (Nat.le_trans BR.out.size bl.out.size) ?_; intro D1 d1 w1 ho hg; have HO := Lib.hid ho; have HB := Lib.hid ((below3 BR.out bl.out).grown hg (Nat.le_trans BR.out.size bl.out.size) (OD.out.blockE)); clear ho hg; rw [HLQ.out])
                        go_roundw
                        case rel => exact ⟨q + 1, D1, d1, by omega, by go_num, by rfl, HB, by rw [turnE, HZ.out]; exact HO⟩
                        case measure => simp [intOf]; omega
                      · have hqq : q = 3 * Wn := by omega
                        have HTF : Hid (fairR (turnE Wn q) (Wn : Int) (Wn : Int) = (true, 0)) := Lib.hid (turn_fair hb5 hb4)
                        have TP := OD.out.prog
                        rw [turnE_len] at TP
                        have HTP := Lib.hid TP
                        clear TP hqq
                        go_wp2_with fail
                        refine (fair_en D q d (turnE Wn q) (Wn : Int) (Wn : Int) _ (by omega) (by omega) HTP.out).mono ?_
                        rw [HTF.out]
                        rintro e U9 ⟨rfl, b9⟩
                        replace BR := Lib.hid (below3 BR.out b9)
                        clear b9
                        go_wp2_with fail
                        go_ret
                        exact ⟨rfl, BR.out⟩
                · have HF1 : Hid (fairR l (Wn : Int) (wn : Int) = (false, 0)) := Lib.hid (fairR_bad HRG.out (by rw [HST.out]; exact hf))
                  clear hf
                  have BB := Lib.hid (Below.refl w.heap.size w)
                  go_enter Try.func6, Try.ntmps6
                  go_wp2_with fail
                  refine (live19_any _).mono ?_
                  try dsimp only
                  rintro e U1 ⟨rfl, bU1⟩
                  replace BB := Lib.hid (below3 BB.out bU1)
                  clear bU1
                  go_wp2_with fail
                  refine (fair_en A n c l (Wn : Int) (wn : Int) _ (by omega) (by omega) (HL.out.below BB.out)).mono ?_
                  rw [HF1.out]
                  try dsimp only
                  rintro e U2 ⟨rfl, bU2⟩
                  replace BB := Lib.hid (below3 BB.out bU2)
                  clear bU2
                  go_wp2_with fail
                  refine (only_en A n c l 0 _ (by omega) (HL.out.below BB.out)).mono ?_
                  unfold NewEn
                  rw [HST.out]
                  try dsimp only
                  rintro e U3 ⟨D1, d1, rfl, ow, bU3⟩
                  replace BB := Lib.hid (below3 BB.out bU3)
                  clear bU3
                  rw [HS.out]
                  have T1 := Lib.hid ow.prog
                  rw [HS.out] at T1
                  clear ow
                  go_wp2_with fail
                  refine (fair_en D1 S d1 sts (Wn : Int) (wn : Int) _ (by omega) (by omega) T1.out).mono ?_
                  rw [HFO.out]
                  rw [HF1.out]
                  try dsimp only
                  rintro e U4 ⟨rfl, bU4⟩
                  replace T1 := Lib.hid (T1.out.below bU4)
                  replace BB := Lib.hid (below3 BB.out bU4)
                  clear bU4
                  clear T1
                  have BB2 := Lib.hid BB.out
                  go_wp2_with fail
                  go_loopw [23, 150] (fun u t wr => ∃ (q : Nat) (D : Option Addr) (d : Nat), q ≤ 3 * Wn ∧ t = .int .i64 q ∧ u = .slice D q d ∧ Hid (Below w.heap.size w wr) ∧ Hid (OwnP 45 wr w.heap.size D d (turnE Wn q))) (fun _ t _ => 3 * Wn - (intOf t).toNat)
                  case atStart => exact ⟨0, none, 0, by omega, rfl, rfl, BB2, Lib.hid (OwnP.nil_ _ _ _)⟩
                  case round =>
                    rename World => wr
                    obtain ⟨q, D, d, hq, rfl, rfl, BR, OD⟩ := hrel
                    by_cases hqn : q < 3 * Wn
                    · obtain ⟨z, hz⟩ : ∃ z : Nat, q % Wn = z := ⟨_, rfl⟩
                      have hqm : ((q : Int)).tmod (Wn : Int) = (z : Int) := by rw [Int.tmod_eq_emod_of_nonneg (by omega), ← hz]; rfl
                      have hqe : (q : Int) % (Wn : Int) = (z : Int) := by rw [← hz]; rfl
                      have hwz : (Wn : Int) ≠ 0 := by omega
                      have hwn0 : ¬ Wn = 0 := by omega
                      have hwb : ((Wn : Int) == 0) = false := by simp; omega
                      have FX : Hid (FitI (0, (z : Int), 0)) := Lib.hid (by have := Nat.mod_lt q (show 0 < Wn by omega); unfold FitI Fit; dsimp only; omega)
                      have HZ := Lib.hid hz
                      clear hz
                      have hln := turnE_len Wn q
                      have bl := Lib.hid ((Below.refl wr.heap.size wr).alloc (Nat.le_refl _) (.cells #[.int .i64 0, .int .i64 (z : Int), .int .i64 0] 45))
                      have HLN := Lib.hid hln
                      have HLQ : Hid ((turnE Wn q ++ [((0 : Int), (z : Int), (0 : Int))]).length = q + 1) := Lib.hid (by rw [List.length_append, HLN.out]; rfl)
                      clear hln
                      go_wp2_with (at_builtin; refine wpList_append_prog _ rfl _ _ 31 rfl 45 _ rfl Try.underlying31 Try.enInfo w.heap.size D d (turnE Wn q) q HLN.out.symm rfl (OD.out.below bl.out) (some ⟨wr.heap.size, 0, none⟩) 1 1 [(0, (z : Int), 0)] rfl (prog1_en wr 45 FX.out) (by have := HLN.out; omega) (Nat.le_trans BR.out.size bl.out.size) ?_; intro D1 d1 w1 ho hg; have HO := Lib.hid ho; have HB := Lib.hid ((below3 BR.out bl.out).grown hg (Nat.le_trans BR.out.size bl.out.size) (OD.out.blockE)); clear ho hg; rw [HLQ.out])
                      go_roundw
                      case rel => exact ⟨q + 1, D1, d1, by omega, by go_num, by rfl, HB, by rw [turnE, HZ.out]; exact HO⟩
                      case measure => simp [intOf]; omega
                    · have hqq : q = 3 * Wn := by omega
                      have HTF : Hid (fairR (turnE Wn q) (Wn : Int) (Wn : Int) = (true, 0)) := Lib.hid (turn_fair hb5 hb4)
                      have TP := OD.out.prog
                      rw [turnE_len] at TP
                      have HTP := Lib.hid TP
                      clear TP hqq
                      go_wp2_with fail
                      refine (fair_en D q d (turnE Wn q) (Wn : Int) (Wn : Int) _ (by omega) (by omega) HTP.out).mono ?_
                      rw [HTF.out]
                      rintro e U9 ⟨rfl, b9⟩
                      replace BR := Lib.hid (below3 BR.out b9)
                      clear b9
                      go_wp2_with fail
                      go_ret
                      exact ⟨rfl, BR.out⟩
              · have t0 : decide (200 < (n : Int)) = false := decide_eq_false (by omega)
                have t0n : decide (200 < n) = false := decide_eq_false (by omega)
                have t1 : decide (wd < 1) = false := decide_eq_false (by omega)
                have t2 : decide (500 < wd) = false := decide_eq_false (by omega)
                have t3 : decide (mo < 0) = false := decide_eq_false (by omega)
                have t4 : decide (500 < mo) = false := decide_eq_false (by omega)
                have t5 : decide (W < 1) = false := decide_eq_false (by omega)
                have t6 : decide (64 < W) = true := decide_eq_true (by omega)
                clear h0 h1 h2 h3 h4 h5 h6
                have BB := Lib.hid (Below.refl w.heap.size w)
                go_enter Try.func6, Try.ntmps6
                go_wp2_with fail
                refine (live19_any _).mono ?_
                try dsimp only
                rintro e U1 ⟨rfl, bU1⟩
                replace BB := Lib.hid (below3 BB.out bU1)
                clear bU1
                go_wp2_with fail
                go_ret
                exact ⟨rfl, BB.out⟩
            · have t0 : decide (200 < (n : Int)) = false := decide_eq_false (by omega)
              have t0n : decide (200 < n) = false := decide_eq_false (by omega)
              have t1 : decide (wd < 1) = false := decide_eq_false (by omega)
              have t2 : decide (500 < wd) = false := decide_eq_false (by omega)
              have t3 : decide (mo < 0) = false := decide_eq_false (by omega)
              have t4 : decide (500 < mo) = false := decide_eq_false (by omega)
              have t5 : decide (W < 1) = true := decide_eq_true (by omega)
              clear h0 h1 h2 h3 h4 h5
              have BB := Lib.hid (Below.refl w.heap.size w)
              go_enter Try.func6, Try.ntmps6
              go_wp2_with fail
              refine (live19_any _).mono ?_
              try dsimp only
              rintro e U1 ⟨rfl, bU1⟩
              replace BB := Lib.hid (below3 BB.out bU1)
              clear bU1
              go_wp2_with fail
              go_ret
              exact ⟨rfl, BB.out⟩
          · have t0 : decide (200 < (n : Int)) = false := decide_eq_false (by omega)
            have t0n : decide (200 < n) = false := decide_eq_false (by omega)
            have t1 : decide (wd < 1) = false := decide_eq_false (by omega)
            have t2 : decide (500 < wd) = false := decide_eq_false (by omega)
            have t3 : decide (mo < 0) = false := decide_eq_false (by omega)
            have t4 : decide (500 < mo) = true := decide_eq_true (by omega)
            clear h0 h1 h2 h3 h4
            have BB := Lib.hid (Below.refl w.heap.size w)
            go_enter Try.func6, Try.ntmps6
            go_wp2_with fail
            refine (live19_any _).mono ?_
            try dsimp only
            rintro e U1 ⟨rfl, bU1⟩
            replace BB := Lib.hid (below3 BB.out bU1)
            clear bU1
            go_wp2_with fail
            go_ret
            exact ⟨rfl, BB.out⟩
        · have t0 : decide (200 < (n : Int)) = false := decide_eq_false (by omega)
          have t0n : decide (200 < n) = false := decide_eq_false (by omega)
          have t1 : decide (wd < 1) = false := decide_eq_false (by omega)
          have t2 : decide (500 < wd) = false := decide_eq_false (by omega)
          have t3 : decide (mo < 0) = true := decide_eq_true (by omega)
          clear h0 h1 h2 h3
          have BB := Lib.hid (Below.refl w.heap.size w)
          go_enter Try.func6, Try.ntmps6
          go_wp2_with fail
          refine (live19_any _).mono ?_
          try dsimp only
          rintro e U1 ⟨rfl, bU1⟩
          replace BB := Lib.hid (below3 BB.out bU1)
          clear bU1
          go_wp2_with fail
          go_ret
          exact ⟨rfl, BB.out⟩
      · have t0 : decide (200 < (n : Int)) = false := decide_eq_false (by omega)
        have t0n : decide (200 < n) = false := decide_eq_false (by omega)
        have t1 : decide (wd < 1) = false := decide_eq_false (by omega)
        have t2 : decide (500 < wd) = true := decide_eq_true (by omega)
        clear h0 h1 h2
        have BB := Lib.hid (Below.refl w.heap.size w)
        go_enter Try.func6, Try.ntmps6
        go_wp2_with fail
        refine (live19_any _).mono ?_
        try dsimp only
        rintro e U1 ⟨rfl, bU1⟩
        replace BB := Lib.hid (below3 BB.out bU1)
        clear bU1
        go_wp2_with fail
        go_ret
        exact ⟨rfl, BB.out⟩
    · have t0 : decide (200 < (n : Int)) = false := decide_eq_false (by omega)
      have t0n : decide (200 < n) = false := decide_eq_false (by omega)
      have t1 : decide (wd < 1) = true := decide_eq_true (by omega)
      clear h0 h1
      have BB := Lib.hid (Below.refl w.heap.size w)
      go_enter Try.func6, Try.ntmps6
      go_wp2_with fail
      refine (live19_any _).mono ?_
      try dsimp only
      rintro e U1 ⟨rfl, bU1⟩
      replace BB := Lib.hid (below3 BB.out bU1)
      clear bU1
      go_wp2_with fail
      go_ret
      exact ⟨rfl, BB.out⟩
  · have t0 : decide (200 < (n : Int)) = true := decide_eq_true (by omega)
    have t0n : decide (200 < n) = true := decide_eq_true (by omega)
    clear h0
    have BB := Lib.hid (Below.refl w.heap.size w)
    go_enter Try.func6, Try.ntmps6
    go_wp2_with fail
    refine (live19_any _).mono ?_
    try dsimp only
    rintro e U1 ⟨rfl, bU1⟩
    replace BB := Lib.hid (below3 BB.out bU1)
    clear bU1
    go_wp2_with fail
    go_ret
    exact ⟨rfl, BB.out⟩

end Go.Proofs.Ytpfnoohcilefhaa

import Derived.Test.YtfhlligcbpnkkaaDoorMg16
import Derived.Test.YtfhlligcbpnkkaaDoorMg11
import Derived.Test.YtfhlligcbpnkkaaDoorMg15
import Derived.Test.YtfhlligcbpnkkaaDoorMg28
import Derived.Test.YtfhlligcbpnkkaaDoorCards
import Derived.Test.YtfhlligcbpnkkaaDoorTie
import Derived.SevenTiedAt

/-
  Layer 18: the law TracePrefix: if events may come, so may their beginning.
-/
namespace Go.Proofs.YtfhlligcbpnkkaaDoor
open Go.RowKit

theorem cut_at {cut : Int} {n : Nat} (hn : n ≤ 200) : wrap64 ((n : Int) + 1) ≠ 0 ∧ ∃ k : Nat, k ≤ n ∧ (wrap64 (wrap64 (cut.tmod (wrap64 ((n : Int) + 1)) + (n : Int)) + 1)).tmod (wrap64 ((n : Int) + 1)) = (k : Int) := by
  have w1 : wrap64 ((n : Int) + 1) = (n : Int) + 1 := by unfold wrap64; omega
  have h1 : cut.tmod ((n : Int) + 1) < (n : Int) + 1 := Int.tmod_lt_of_pos cut (by omega)
  have h2 : -((n : Int) + 1) < cut.tmod ((n : Int) + 1) := by
    have h3 := Int.neg_tmod cut ((n : Int) + 1)
    have h4 := Int.tmod_lt_of_pos (-cut) (show (0 : Int) < (n : Int) + 1 by omega)
    omega
  rw [w1]
  refine ⟨by omega, ?_⟩
  have w2 : wrap64 (cut.tmod ((n : Int) + 1) + (n : Int)) = cut.tmod ((n : Int) + 1) + (n : Int) := by unfold wrap64; omega
  rw [w2]
  have w3 : wrap64 (cut.tmod ((n : Int) + 1) + (n : Int) + 1) = cut.tmod ((n : Int) + 1) + (n : Int) + 1 := by unfold wrap64; omega
  rw [w3]
  have h5 := Int.tmod_nonneg ((n : Int) + 1) (show 0 ≤ cut.tmod ((n : Int) + 1) + (n : Int) + 1 by omega)
  have h6 := Int.tmod_lt_of_pos (cut.tmod ((n : Int) + 1) + (n : Int) + 1) (show (0 : Int) < (n : Int) + 1 by omega)
  exact ⟨((cut.tmod ((n : Int) + 1) + (n : Int) + 1).tmod ((n : Int) + 1)).toNat, by omega, by omega⟩

set_option maxHeartbeats 4000000 in
theorem lprefix_any (F A : Option Addr) (np cp n c : Nat) (P : List (List I3)) (l : List I3) (cut : Int) (w : World) (hF : Fol w) (hP : Prgs w F np P) (hl : Prog w A n c l) :
    Calls Tryd.prog 4 #[.slice F np cp, .slice A n c, .int .i64 cut] w (RetB (.bool true) w) := by
  have HF := Lib.hid hF
  have HPP := Lib.hid hP
  have HL := Lib.hid hl
  have LX := Lib.hid hl.1
  have hnc := hl.2.1
  clear hF hP hl
  by_cases hfw : fewB P = true
  · by_cases hn : n ≤ 200
    · have HFW := Lib.hid hfw
      have HN := Lib.hid hn
      have tn : decide (200 < (n : Int)) = false := decide_eq_false (by omega)
      have tnn : decide (200 < n) = false := decide_eq_false (by omega)
      clear hfw hn
      by_cases he : errL P = 0
      · obtain ⟨hz, k, hkn, hk⟩ := cut_at (cut := cut) HN.out
        have HE : Hid (errL P = 0) := Lib.hid he
        obtain ⟨bd, hbd⟩ : ∃ b, badT P l = b := ⟨_, rfl⟩
        have HC1 : Hid (chkT P l = ((bd : Int), 0)) := Lib.hid (by rw [chkT_ok ⟨he, by have := LX.out; have := HN.out; omega⟩, hbd])
        have HC2 : Hid (chkT P (l.take k) = (min (bd : Int) (k : Int), 0)) := Lib.hid (by rw [chkT_ok ⟨he, by rw [List.length_take]; have := LX.out; have := HN.out; omega⟩, bad_cut (by rw [LX.out]; exact hkn), hbd]; congr 1; omega)
        clear he hbd
        have BB := Lib.hid (Below.refl w.heap.size w)
        go_enter Tryd.func4, Tryd.ntmps4
        go_wp2_with fail
        refine (live_any _ (HF.out.le BB.out)).mono ?_
        try dsimp only
        rintro e U1 ⟨rfl, bU1⟩
        replace BB := Lib.hid (below3 BB.out bU1)
        clear bU1
        go_wp2_with fail
        refine (few_any F np cp P _ (HPP.out.below BB.out)).mono ?_
        rw [HFW.out]
        try dsimp only
        rintro e U2 ⟨rfl, hw⟩
        have hw2 := hw.symm
        subst hw2
        clear hw
        go_wp2_with fail
        refine (check_pr F A np cp n c P l _ (HF.out.le BB.out) (HPP.out.below BB.out) (HL.out.below BB.out)).mono ?_
        rw [HC1.out]
        try dsimp only
        rintro e U3 ⟨rfl, bU3⟩
        replace BB := Lib.hid (below3 BB.out bU3)
        clear bU3
        go_wp2_with fail
        refine (check_pr F A np cp k c P (l.take k) _ (HF.out.le BB.out) (HPP.out.below BB.out) ((HL.out.below BB.out).take hkn)).mono ?_
        rw [HC2.out]
        try dsimp only
        rintro e U4 ⟨rfl, bU4⟩
        replace BB := Lib.hid (below3 BB.out bU4)
        clear bU4
        go_wp2_with fail
        refine (checkAll_any F np cp P _ (HPP.out.below BB.out)).mono ?_
        rw [HE.out]
        try dsimp only
        rintro e U5 ⟨rfl, bU5⟩
        replace BB := Lib.hid (below3 BB.out bU5)
        clear bU5
        go_wp2_with fail
        go_ret
        exact ⟨rfl, BB.out⟩
      · obtain ⟨hz, k, hkn, hk⟩ := cut_at (cut := cut) HN.out
        have HE : Hid (errL P = 1) := Lib.hid (errL_no fun q => he (errL_ok q))
        have HC1 : Hid (chkT P l = (0, 1)) := Lib.hid (chkT_no fun q => he q.1)
        have HC2 : Hid (chkT P (l.take k) = (0, 1)) := Lib.hid (chkT_no fun q => he q.1)
        clear he
        have BB := Lib.hid (Below.refl w.heap.size w)
        go_enter Tryd.func4, Tryd.ntmps4
        go_wp2_with fail
        refine (live_any _ (HF.out.le BB.out)).mono ?_
        try dsimp only
        rintro e U1 ⟨rfl, bU1⟩
        replace BB := Lib.hid (below3 BB.out bU1)
        clear bU1
        go_wp2_with fail
        refine (few_any F np cp P _ (HPP.out.below BB.out)).mono ?_
        rw [HFW.out]
        try dsimp only
        rintro e U2 ⟨rfl, hw⟩
        have hw2 := hw.symm
        subst hw2
        clear hw
        go_wp2_with fail
        refine (check_pr F A np cp n c P l _ (HF.out.le BB.out) (HPP.out.below BB.out) (HL.out.below BB.out)).mono ?_
        rw [HC1.out]
        try dsimp only
        rintro e U3 ⟨rfl, bU3⟩
        replace BB := Lib.hid (below3 BB.out bU3)
        clear bU3
        go_wp2_with fail
        refine (check_pr F A np cp k c P (l.take k) _ (HF.out.le BB.out) (HPP.out.below BB.out) ((HL.out.below BB.out).take hkn)).mono ?_
        rw [HC2.out]
        try dsimp only
        rintro e U4 ⟨rfl, bU4⟩
        replace BB := Lib.hid (below3 BB.out bU4)
        clear bU4
        go_wp2_with fail
        refine (checkAll_any F np cp P _ (HPP.out.below BB.out)).mono ?_
        rw [HE.out]
        try dsimp only
        rintro e U5 ⟨rfl, bU5⟩
        replace BB := Lib.hid (below3 BB.out bU5)
        clear bU5
        go_wp2_with fail
        go_ret
        exact ⟨rfl, BB.out⟩
    · have HFW := Lib.hid hfw
      have tn : decide (200 < (n : Int)) = true := decide_eq_true (by omega)
      have tnn : decide (200 < n) = true := decide_eq_true (by omega)
      clear hfw hn
      have BB := Lib.hid (Below.refl w.heap.size w)
      go_enter Tryd.func4, Tryd.ntmps4
      go_wp2_with fail
      refine (live_any _ (HF.out.le BB.out)).mono ?_
      try dsimp only
      rintro e U1 ⟨rfl, bU1⟩
      replace BB := Lib.hid (below3 BB.out bU1)
      clear bU1
      go_wp2_with fail
      refine (few_any F np cp P _ (HPP.out.below BB.out)).mono ?_
      rw [HFW.out]
      try dsimp only
      rintro e U2 ⟨rfl, hw⟩
      have hw2 := hw.symm
      subst hw2
      clear hw
      go_wp2_with fail
      go_ret
      exact ⟨rfl, BB.out⟩
  · have HFW : Hid (fewB P = false) := Lib.hid (by simpa using hfw)
    clear hfw
    have BB := Lib.hid (Below.refl w.heap.size w)
    go_enter Tryd.func4, Tryd.ntmps4
    go_wp2_with fail
    refine (live_any _ (HF.out.le BB.out)).mono ?_
    try dsimp only
    rintro e U1 ⟨rfl, bU1⟩
    replace BB := Lib.hid (below3 BB.out bU1)
    clear bU1
    go_wp2_with fail
    refine (few_any F np cp P _ (HPP.out.below BB.out)).mono ?_
    rw [HFW.out]
    try dsimp only
    rintro e U2 ⟨rfl, hw⟩
    have hw2 := hw.symm
    subst hw2
    clear hw
    go_wp2_with fail
    go_ret
    exact ⟨rfl, BB.out⟩

end Go.Proofs.YtfhlligcbpnkkaaDoor

/-
  The tied card of the law TracePrefix of layer 18 holds, for every input, where the table of states reads as the program's own text lays it: if events may come, so may their beginning. No condition beyond the row's own.
-/
namespace Go.Proofs.YtfhlligcbpnkkaaDoor
open Go.ChangeShapes Go.WideShapes Go.ChangeAt Go.RowKit

set_option maxRecDepth 100000 in
theorem lprefix_gives {H : Type} (enc : TypeId × Value → H) : GivesL Fol enc 4 Tryd.f4.params.toList Rows.tracePrefixSpec := by
  intro W base args ds p hval hA hsz hlt hL
  rw [Tryd.params4] at hA hval hsz
  obtain ⟨v0, vs0, d0, ds0, p0, q0, hargs, rfl, rfl, h0, r0⟩ := trodAll_cons hA
  obtain ⟨v1, vs1, d1, ds1, p1, q1, rfl, rfl, rfl, h1, r1⟩ := trodAll_cons r0
  obtain ⟨v2, vs2, d2, ds2, p2, q2, rfl, rfl, rfl, h2, r2⟩ := trodAll_cons r1
  obtain ⟨rfl, rfl, rfl⟩ := trodAll_nil r2
  obtain rfl : args = #[v0, v1, v2] := by cases args; simp_all
  refine ⟨rfl, ?_⟩
  obtain ⟨A0, n0, c0, l0, rfl, hx0⟩ := open_prgs (hval 0 22 v0 rfl rfl) h0 (fun x hx => hlt x (by simp [hx]))
  obtain ⟨A1, n1, c1, l1, rfl, hx1⟩ := open_evs (hval 1 23 v1 rfl rfl) h1 (fun x hx => hlt x (by simp [hx]))
  obtain ⟨a2, rfl, rfl, rfl, w2⟩ := open_int Tryd.underlying3 (hval 2 3 v2 rfl rfl) h2
  exact lprefix_any A0 A1 n0 c0 n1 c1 l0 l1 a2 W hL hx0 hx1

set_option maxRecDepth 100000 in
theorem lprefix_lifted (os : Os) (started : os.Started) (H : Type) (enc : TypeId × Value → H) :
    ReturnsInHanded {} Tryd.checked os 4 .any (fun w args => (Rows.tracePrefixSpec.pre enc Tryd.prog Tryd.f4 Rows.tracePrefixRow.domain false w args ∧ laidMetH Tryd.prog [("ravel/life.follows", Rows.laid_ravel_life_follows)] w) ∧ sizedMet enc Tryd.prog Tryd.f4 (OpenSpec.ofChange Rows.tracePrefixSpec) false w args) (Rows.tracePrefixSpec.post enc Tryd.prog Tryd.f4 false true false false) :=
  lawL_lifted os started 4 Tryd.f4 Rows.tracePrefixSpec [("ravel/life.follows", Rows.laid_ravel_life_follows)] Fol fol_of_laid rfl rfl (by kernel_rfl) Tryd.func4 (by kernel_rfl) (by kernel_rfl)
    (ChangeSpec.witness_shaped (enc := enc) (C := Tryd.checked) (os := os) (X := fun w _ => laidMetH Tryd.prog [("ravel/life.follows", Rows.laid_ravel_life_follows)] w) false (World.laidAll Tryd.prog os [("ravel/life.follows", Rows.laid_ravel_life_follows)]) #[.slice none 0 0, .slice none 0 0, .int .i64 0] 8 (World.laidAll_os _ _ _)
      (World.shaped_of_ZipB (by kernel_rfl) (by kernel_rfl)) (by kernel_rfl) (by kernel_rfl) (by kernel_rfl) (by rw [MakeChecks.laidMetH_plain _ _ _ (by kernel_rfl)]; exact laidMet_laidAll _ (by kernel_rfl) (by kernel_rfl)))
    (lprefix_gives enc)

set_option maxRecDepth 100000 in
theorem TracePrefix_row : Rows.TracePrefixSaid :=
  OpenClaim.holds_of_wide 4 Tryd.f4 rfl rfl rfl rfl rfl rfl rfl ⟨rfl, rfl, rfl, rfl, rfl⟩ rfl rfl rfl rfl rfl (by kernel_rfl) Tryd.func4 (by kernel_rfl)
    (of_decide_eq_true (by kernel_rfl)) (by unfold Func.isWrapper; first | (rw [if_pos (by decide +kernel)]; kernel_rfl) | (rw [if_neg (by decide +kernel)]; exact ⟨rfl, rfl⟩))
    (fun os started H enc _ => lprefix_lifted os started H enc)

set_option maxRecDepth 100000 in
theorem TracePrefix_holds : Rows.TracePrefixCardSaid :=
  Claim7.holds_tied_plain_at .later [] [.data] true Rows.tracePrefixCard.stood.harness false
    TracePrefix_row (fun _ h => by cases h) (by kernel_rfl) (fun _ h => by cases h) tracePrefix_row_tie rfl ⟨rfl, rfl⟩ (by kernel_rfl) (by kernel_rfl)
    (fun f fn hf hfn => by
      obtain rfl : f = 4 := Option.some.inj ((show Tryd.prog.funcNamed "ravel/ravellaw18.TracePrefix" = some 4 by kernel_rfl).symm.trans hf) |>.symm
      obtain rfl : fn = Tryd.f4 := (Option.some.inj (Tryd.func4.symm.trans hfn)).symm
      exact ⟨by kernel_rfl, fun j t ht => by
        rw [Tryd.params4] at ht
        have hm : t ∈ [22, 23, 3] := by simpa using Array.mem_of_getElem? ht
        have hall : ([22, 23, 3].all fun u => !Tryd.prog.wantsStandIn u) = true := by kernel_rfl
        exact (show Tryd.prog.wantsStandIn t = false by simpa using List.all_eq_true.1 hall t hm)⟩)
    (by kernel_rfl)

#print axioms TracePrefix_holds
end Go.Proofs.YtfhlligcbpnkkaaDoor

import Derived.Test.YtfhlligcbpnkkaaDoorMg16
import Derived.Test.YtfhlligcbpnkkaaDoorMg17
import Derived.Test.YtfhlligcbpnkkaaDoorMg27
import Derived.Test.YtfhlligcbpnkkaaDoorMg28
import Derived.Test.YtfhlligcbpnkkaaDoorMg15
import Derived.Test.YtfhlligcbpnkkaaDoorCards
import Derived.Test.YtfhlligcbpnkkaaDoorTie
import Derived.SevenTiedAt

/-
  Layer 18: the law TraceChecks: the program's answers are the document's.
-/
namespace Go.Proofs.YtfhlligcbpnkkaaDoor
open Go.RowKit

set_option maxHeartbeats 4000000 in
theorem lchecks_any (F A : Option Addr) (np cp n c : Nat) (P : List (List I3)) (l : List I3) (id kd : Int) (w : World) (hF : Fol w) (hP : Prgs w F np P) (hl : Prog w A n c l) :
    Calls Tryd.prog 3 #[.slice F np cp, .slice A n c, .int .i64 id, .int .i64 kd] w (RetB (.bool true) w) := by
  have HF := Lib.hid hF
  have HPP := Lib.hid hP
  have HL := Lib.hid hl
  have LX := Lib.hid hl.1
  have hnc := hl.2.1
  clear hF hP hl
  by_cases hfw : fewB P = true
  · by_cases hn : n ≤ 200
    · have HFW := Lib.hid hfw
      have HN := Lib.hid hn
      have tn : decide (200 < (n : Int)) = false := decide_eq_false (by omega)
      have tnn : decide (200 < n) = false := decide_eq_false (by omega)
      clear hfw hn
      obtain ⟨⟨ca, ce⟩, hc⟩ : ∃ r, chkT P l = r := ⟨_, rfl⟩
      obtain ⟨⟨ts, te⟩, ht⟩ : ∃ r, tasksT P l = r := ⟨_, rfl⟩
      obtain ⟨m, hm⟩ : ∃ m, ofR l id = m := ⟨_, rfl⟩
      obtain ⟨v, hv⟩ : ∃ v, cntR l kd = v := ⟨_, rfl⟩
      obtain ⟨z, hzz⟩ : ∃ z, heldR kd = z := ⟨_, rfl⟩
      have HC := Lib.hid hc
      have HT := Lib.hid ht
      have HM := Lib.hid hm
      have HV := Lib.hid hv
      have HZ := Lib.hid hzz
      have H24 : Hid (n * 24 ≤ 140737488351232) := Lib.hid (by have := HN.out; omega)
      have HS : Hid (sameP m m = true) := Lib.hid (decide_eq_true rfl)
      clear hc ht hm hv hzz
      have BB := Lib.hid (Below.refl w.heap.size w)
      go_enter Tryd.func3, Tryd.ntmps3
      go_wp2_with fail
      refine (live_any _ (HF.out.le BB.out)).mono ?_
      try dsimp only
      rintro e U1 ⟨rfl, bU1⟩
      replace BB := Lib.hid (below3 BB.out bU1)
      clear bU1
      go_wp2_with fail
      refine (few_any F np cp P _ (HPP.out.below BB.out)).mono ?_
      rw [HFW.out]
      try dsimp only
      rintro e U2 ⟨rfl, hw⟩
      have hw2 := hw.symm
      subst hw2
      clear hw
      go_wp2_with fail
      refine (check_pr F A np cp n c P l _ (HF.out.le BB.out) (HPP.out.below BB.out) (HL.out.below BB.out)).mono ?_
      rw [HC.out]
      try dsimp only
      rintro e U3 ⟨rfl, bU3⟩
      replace BB := Lib.hid (below3 BB.out bU3)
      clear bU3
      go_wp2_with fail
      refine (check_tr F A np cp n c P l _ H24.out (HPP.out.below BB.out) (HL.out.below BB.out)).mono ?_
      rw [HC.out]
      try dsimp only
      rintro e U4 ⟨rfl, bU4⟩
      replace BB := Lib.hid (below3 BB.out bU4)
      clear bU4
      go_wp2_with fail
      refine (tasks_pr F A np cp n c P l _ (HF.out.le BB.out) (HPP.out.below BB.out) (HL.out.below BB.out)).mono ?_
      unfold TasksP
      rw [HT.out]
      try dsimp only
      rintro e U5 ⟨A1, c1, rfl, ow, bU5⟩
      replace BB := Lib.hid (below3 BB.out bU5)
      clear bU5
      have T1 := Lib.hid ow
      clear ow
      go_wp2_with fail
      refine (tasks_tr F A np cp n c P l _ H24.out (HPP.out.below BB.out) (HL.out.below BB.out)).mono ?_
      unfold TasksP
      rw [HT.out]
      try dsimp only
      rintro e U6 ⟨A2, c2, rfl, ow, bU6⟩
      replace T1 := Lib.hid (T1.out.below bU6)
      replace BB := Lib.hid (below3 BB.out bU6)
      clear bU6
      have T2 := Lib.hid ow
      clear ow
      go_wp2_with fail
      refine (sameTasks_tr A1 A2 ts.length c1 c2 ts _ T1.out.tks T2.out.tks).mono ?_
      try dsimp only
      rintro e U7 ⟨rfl, bU7⟩
      replace T1 := Lib.hid (T1.out.below bU7)
      replace T2 := Lib.hid (T2.out.below bU7)
      replace BB := Lib.hid (below3 BB.out bU7)
      clear bU7
      clear T1 T2
      go_wp2_with fail
      refine (of_pr A n c l id _ H24.out (HL.out.below BB.out)).mono ?_
      unfold NewEv
      rw [HM.out]
      try dsimp only
      rintro e U8 ⟨A3, c3, rfl, ow, bU8⟩
      replace BB := Lib.hid (below3 BB.out bU8)
      clear bU8
      have T3 := Lib.hid ow
      clear ow
      go_wp2_with fail
      refine (of_tr A n c l id _ H24.out (HL.out.below BB.out)).mono ?_
      unfold NewEv
      rw [HM.out]
      try dsimp only
      rintro e U9 ⟨A4, c4, rfl, ow, bU9⟩
      replace T3 := Lib.hid (T3.out.below bU9)
      replace BB := Lib.hid (below3 BB.out bU9)
      clear bU9
      have T4 := Lib.hid ow
      clear ow
      go_wp2_with fail
      refine (same_tr A3 A4 m.length c3 m.length c4 m m _ T3.out.prog T4.out.prog).mono ?_
      rw [HS.out]
      try dsimp only
      rintro e U10 ⟨rfl, bU10⟩
      replace T3 := Lib.hid (T3.out.below bU10)
      replace T4 := Lib.hid (T4.out.below bU10)
      replace BB := Lib.hid (below3 BB.out bU10)
      clear bU10
      clear T3 T4
      go_wp2_with fail
      refine (count_pr A n c l kd _ (HL.out.below BB.out)).mono ?_
      rw [HV.out]
      try dsimp only
      rintro e U11 ⟨rfl, bU11⟩
      replace BB := Lib.hid (below3 BB.out bU11)
      clear bU11
      go_wp2_with fail
      refine (count_tr A n c l kd _ (HL.out.below BB.out)).mono ?_
      rw [HV.out]
      try dsimp only
      rintro e U12 ⟨rfl, bU12⟩
      replace BB := Lib.hid (below3 BB.out bU12)
      clear bU12
      go_wp2_with fail
      refine (held_tp kd _).mono ?_
      rw [HZ.out]
      try dsimp only
      rintro e U13 ⟨rfl, hw⟩
      have hw2 := hw.symm
      subst hw2
      clear hw
      go_wp2_with fail
      refine (held_tr kd _).mono ?_
      rw [HZ.out]
      try dsimp only
      rintro e U14 ⟨rfl, hw⟩
      have hw2 := hw.symm
      subst hw2
      clear hw
      go_wp2_with fail
      go_ret
      exact ⟨rfl, BB.out⟩
    · have HFW := Lib.hid hfw
      have tn : decide (200 < (n : Int)) = true := decide_eq_true (by omega)
      have tnn : decide (200 < n) = true := decide_eq_true (by omega)
      clear hfw hn
      have BB := Lib.hid (Below.refl w.heap.size w)
      go_enter Tryd.func3, Tryd.ntmps3
      go_wp2_with fail
      refine (live_any _ (HF.out.le BB.out)).mono ?_
      try dsimp only
      rintro e U1 ⟨rfl, bU1⟩
      replace BB := Lib.hid (below3 BB.out bU1)
      clear bU1
      go_wp2_with fail
      refine (few_any F np cp P _ (HPP.out.below BB.out)).mono ?_
      rw [HFW.out]
      try dsimp only
      rintro e U2 ⟨rfl, hw⟩
      have hw2 := hw.symm
      subst hw2
      clear hw
      go_wp2_with fail
      go_ret
      exact ⟨rfl, BB.out⟩
  · have HFW : Hid (fewB P = false) := Lib.hid (by simpa using hfw)
    clear hfw
    have BB := Lib.hid (Below.refl w.heap.size w)
    go_enter Tryd.func3, Tryd.ntmps3
    go_wp2_with fail
    refine (live_any _ (HF.out.le BB.out)).mono ?_
    try dsimp only
    rintro e U1 ⟨rfl, bU1⟩
    replace BB := Lib.hid (below3 BB.out bU1)
    clear bU1
    go_wp2_with fail
    refine (few_any F np cp P _ (HPP.out.below BB.out)).mono ?_
    rw [HFW.out]
    try dsimp only
    rintro e U2 ⟨rfl, hw⟩
    have hw2 := hw.symm
    subst hw2
    clear hw
    go_wp2_with fail
    go_ret
    exact ⟨rfl, BB.out⟩

end Go.Proofs.YtfhlligcbpnkkaaDoor

/-
  The tied card of the law TraceChecks of layer 18 holds, for every input, where the table of states reads as the program's own text lays it: which events may not come first, the tasks behind all, and any task's own are the document's. No condition beyond the row's own.
-/
namespace Go.Proofs.YtfhlligcbpnkkaaDoor
open Go.ChangeShapes Go.WideShapes Go.ChangeAt Go.RowKit

set_option maxRecDepth 100000 in
theorem lchecks_gives {H : Type} (enc : TypeId × Value → H) : GivesL Fol enc 3 Tryd.f3.params.toList Rows.traceChecksSpec := by
  intro W base args ds p hval hA hsz hlt hL
  rw [Tryd.params3] at hA hval hsz
  obtain ⟨v0, vs0, d0, ds0, p0, q0, hargs, rfl, rfl, h0, r0⟩ := trodAll_cons hA
  obtain ⟨v1, vs1, d1, ds1, p1, q1, rfl, rfl, rfl, h1, r1⟩ := trodAll_cons r0
  obtain ⟨v2, vs2, d2, ds2, p2, q2, rfl, rfl, rfl, h2, r2⟩ := trodAll_cons r1
  obtain ⟨v3, vs3, d3, ds3, p3, q3, rfl, rfl, rfl, h3, r3⟩ := trodAll_cons r2
  obtain ⟨rfl, rfl, rfl⟩ := trodAll_nil r3
  obtain rfl : args = #[v0, v1, v2, v3] := by cases args; simp_all
  refine ⟨rfl, ?_⟩
  obtain ⟨A0, n0, c0, l0, rfl, hx0⟩ := open_prgs (hval 0 22 v0 rfl rfl) h0 (fun x hx => hlt x (by simp [hx]))
  obtain ⟨A1, n1, c1, l1, rfl, hx1⟩ := open_evs (hval 1 23 v1 rfl rfl) h1 (fun x hx => hlt x (by simp [hx]))
  obtain ⟨a2, rfl, rfl, rfl, w2⟩ := open_int Tryd.underlying2 (hval 2 2 v2 rfl rfl) h2
  obtain ⟨a3, rfl, rfl, rfl, w3⟩ := open_int Tryd.underlying3 (hval 3 3 v3 rfl rfl) h3
  exact lchecks_any A0 A1 n0 c0 n1 c1 l0 l1 a2 a3 W hL hx0 hx1

set_option maxRecDepth 100000 in
theorem lchecks_lifted (os : Os) (started : os.Started) (H : Type) (enc : TypeId × Value → H) :
    ReturnsInHanded {} Tryd.checked os 3 .any (fun w args => (Rows.traceChecksSpec.pre enc Tryd.prog Tryd.f3 Rows.traceChecksRow.domain false w args ∧ laidMetH Tryd.prog [("ravel/life.follows", Rows.laid_ravel_life_follows)] w) ∧ sizedMet enc Tryd.prog Tryd.f3 (OpenSpec.ofChange Rows.traceChecksSpec) false w args) (Rows.traceChecksSpec.post enc Tryd.prog Tryd.f3 false true false false) :=
  lawL_lifted os started 3 Tryd.f3 Rows.traceChecksSpec [("ravel/life.follows", Rows.laid_ravel_life_follows)] Fol fol_of_laid rfl rfl (by kernel_rfl) Tryd.func3 (by kernel_rfl) (by kernel_rfl)
    (ChangeSpec.witness_shaped (enc := enc) (C := Tryd.checked) (os := os) (X := fun w _ => laidMetH Tryd.prog [("ravel/life.follows", Rows.laid_ravel_life_follows)] w) false (World.laidAll Tryd.prog os [("ravel/life.follows", Rows.laid_ravel_life_follows)]) #[.slice none 0 0, .slice none 0 0, .int .i64 0, .int .i64 0] 8 (World.laidAll_os _ _ _)
      (World.shaped_of_ZipB (by kernel_rfl) (by kernel_rfl)) (by kernel_rfl) (by kernel_rfl) (by kernel_rfl) (by rw [MakeChecks.laidMetH_plain _ _ _ (by kernel_rfl)]; exact laidMet_laidAll _ (by kernel_rfl) (by kernel_rfl)))
    (lchecks_gives enc)

set_option maxRecDepth 100000 in
theorem TraceChecks_row : Rows.TraceChecksSaid :=
  OpenClaim.holds_of_wide 3 Tryd.f3 rfl rfl rfl rfl rfl rfl rfl ⟨rfl, rfl, rfl, rfl, rfl⟩ rfl rfl rfl rfl rfl (by kernel_rfl) Tryd.func3 (by kernel_rfl)
    (of_decide_eq_true (by kernel_rfl)) (by unfold Func.isWrapper; first | (rw [if_pos (by decide +kernel)]; kernel_rfl) | (rw [if_neg (by decide +kernel)]; exact ⟨rfl, rfl⟩))
    (fun os started H enc _ => lchecks_lifted os started H enc)

set_option maxRecDepth 100000 in
theorem TraceChecks_holds : Rows.TraceChecksCardSaid :=
  Claim7.holds_tied_plain_at .later [] [.data] true Rows.traceChecksCard.stood.harness false
    TraceChecks_row (fun _ h => by cases h) (by kernel_rfl) (fun _ h => by cases h) traceChecks_row_tie rfl ⟨rfl, rfl⟩ (by kernel_rfl) (by kernel_rfl)
    (fun f fn hf hfn => by
      obtain rfl : f = 3 := Option.some.inj ((show Tryd.prog.funcNamed "ravel/ravellaw18.TraceChecks" = some 3 by kernel_rfl).symm.trans hf) |>.symm
      obtain rfl : fn = Tryd.f3 := (Option.some.inj (Tryd.func3.symm.trans hfn)).symm
      exact ⟨by kernel_rfl, fun j t ht => by
        rw [Tryd.params3] at ht
        have hm : t ∈ [22, 23, 2, 3] := by simpa using Array.mem_of_getElem? ht
        have hall : ([22, 23, 2, 3].all fun u => !Tryd.prog.wantsStandIn u) = true := by kernel_rfl
        exact (show Tryd.prog.wantsStandIn t = false by simpa using List.all_eq_true.1 hall t hm)⟩)
    (by kernel_rfl)

#print axioms TraceChecks_holds
end Go.Proofs.YtfhlligcbpnkkaaDoor

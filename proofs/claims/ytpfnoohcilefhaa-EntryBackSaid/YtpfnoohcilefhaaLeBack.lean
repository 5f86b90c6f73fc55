/-
  Layer 19: the law EntryBack: what is written is read; what is read is, written, what stood there.
-/
import Derived.Test.YtpfnoohcilefhaaElv
namespace Go.Proofs.Ytpfnoohcilefhaa
open Go.RowKit

set_option maxHeartbeats 4000000 in
theorem leback_any (A B : Option Addr) (n c m d : Nat) (l : List I3) (bs : List Int) (w : World) (hl : Prog w A n c l) (hb : OctW w B m bs) (hmd : m ≤ d ∧ d ≤ 9223372036854775807) :
    Calls Try.prog 5 #[.slice A n c, .slice B m d] w (RetB (.bool true) w) := by
  have HL := Lib.hid hl
  have HX := Lib.hid hb
  have HMD := Lib.hid hmd
  clear hmd
  have LX := Lib.hid hl.1
  have LB := Lib.hid hb.1
  have hnc := hl.2.1
  clear hl hb
  by_cases h1 : n ≤ 1000
  · by_cases h2 : m ≤ 3000
    · have hn1 := h1
      have t0 : decide (1000 < (n : Int)) = false := decide_eq_false (by omega)
      have t0n : decide (1000 < n) = false := decide_eq_false (by omega)
      have t1 : decide (3000 < (m : Int)) = false := decide_eq_false (by omega)
      have t1n : decide (3000 < m) = false := decide_eq_false (by omega)
      have HOX := Lib.hid (HX.out.2 (by omega))
      clear h1 h2
      by_cases hr : (rdR bs).2 = 0
      · by_cases hw : chkE19 l = 0
        · have hrw := write_read (b := bs) hr
          obtain ⟨⟨ps, pe⟩, hps⟩ : ∃ r, rdR bs = r := ⟨_, rfl⟩
          rw [hps] at hr hrw
          dsimp only at hr hrw
          subst hr
          have HR := Lib.hid hps
          have HW1 := Lib.hid hrw.2
          have HCK := Lib.hid hrw.1
          clear hps hrw
          have HWL : Hid (wrR l = (txE l, 0)) := Lib.hid (wrR_ok hw)
          have HRL : Hid (rdR (txE l) = (l, 0)) := Lib.hid (read_write hw)
          have HSM : Hid (sameP l l = true) := Lib.hid (decide_eq_true rfl)
          have em : wrap64 (3 * (n : Int)) = 3 * (n : Int) := by unfold wrap64; omega
          have em3 : (((txE l).length : Int) == 3 * (n : Int)) = true := by rw [txE_len, LX.out]; simp
          clear hw
          have BB := Lib.hid (Below.refl w.heap.size w)
          go_enter Try.func5, Try.ntmps5
          go_wp2_with fail
          refine (live19_any _).mono ?_
          try dsimp only
          rintro e U1 ⟨rfl, bU1⟩
          replace BB := Lib.hid (below3 BB.out bU1)
          clear bU1
          go_wp2_with fail
          refine (read_en B m d bs _ (HOX.out.below BB.out) HMD.out).mono ?_
          unfold ReadP
          rw [HR.out]
          try dsimp only
          rintro e U2 ⟨D1, d1, rfl, ow, bU2⟩
          replace BB := Lib.hid (below3 BB.out bU2)
          clear bU2
          have T1 := Lib.hid ow
          clear ow
          go_wp2_with fail
          refine (write_en D1 ps.length d1 ps _ T1.out.prog).mono ?_
          unfold WriteP
          rw [HW1.out]
          try dsimp only
          rintro e U3 ⟨D2, d2, rfl, ow, bU3⟩
          replace T1 := Lib.hid (T1.out.below bU3)
          replace BB := Lib.hid (below3 BB.out bU3)
          clear bU3
          have T2 := Lib.hid ow
          clear ow
          have v1 := (T2.out.octs).convert (P := Try.prog) d2 32 5 9 Try.underlying32 Try.underlying5 Try.underlying9
          have v2 := (HOX.out.below BB.out).convert (P := Try.prog) d 32 5 9 Try.underlying32 Try.underlying5 Try.underlying9
          rw [LB.out] at v1 ⊢
          go_wp2_with fail
          refine (check_en D1 ps.length d1 ps _ T1.out.prog).mono ?_
          rw [HCK.out]
          try dsimp only
          rintro e U4 ⟨rfl, bU4⟩
          replace T1 := Lib.hid (T1.out.below bU4)
          replace T2 := Lib.hid (T2.out.below bU4)
          replace BB := Lib.hid (below3 BB.out bU4)
          clear bU4
          clear T2 v1 v2
          clear T1
          go_wp2_with fail
          refine (write_en A n c l _ (HL.out.below BB.out)).mono ?_
          unfold WriteP
          rw [HWL.out]
          try dsimp only
          rintro e U5 ⟨D3, d3, rfl, ow, bU5⟩
          replace BB := Lib.hid (below3 BB.out bU5)
          clear bU5
          have T3 := Lib.hid ow
          clear ow
          go_wp2_with fail
          refine (read_en D3 (txE l).length d3 (txE l) _ T3.out.octs T3.out.capN).mono ?_
          unfold ReadP
          rw [HRL.out]
          try dsimp only
          rintro e U6 ⟨D4, d4, rfl, ow, bU6⟩
          replace T3 := Lib.hid (T3.out.below bU6)
          replace BB := Lib.hid (below3 BB.out bU6)
          clear bU6
          have T4 := Lib.hid ow
          clear ow
          go_wp2_with fail
          refine (rsameE_any D4 A l.length d4 n c l l _ T4.out.prog (HL.out.below BB.out)).mono ?_
          rw [HSM.out]
          try dsimp only
          rintro e U7 ⟨rfl, bU7⟩
          replace T3 := Lib.hid (T3.out.below bU7)
          replace T4 := Lib.hid (T4.out.below bU7)
          replace BB := Lib.hid (below3 BB.out bU7)
          clear bU7
          go_wp2_with fail
          go_ret
          exact ⟨rfl, BB.out⟩
        · have hrw := write_read (b := bs) hr
          obtain ⟨⟨ps, pe⟩, hps⟩ : ∃ r, rdR bs = r := ⟨_, rfl⟩
          rw [hps] at hr hrw
          dsimp only at hr hrw
          subst hr
          have HR := Lib.hid hps
          have HW1 := Lib.hid hrw.2
          have HCK := Lib.hid hrw.1
          clear hps hrw
          obtain ⟨we, hwe⟩ : ∃ e, chkE19 l = e := ⟨_, rfl⟩
          have HWL : Hid (wrR l = ([], we)) := Lib.hid (by rw [wrR_no hw, hwe])
          have HCL := Lib.hid hwe
          have tw : (we != 0) = true := by rw [hwe] at hw; simpa using hw
          clear hw hwe
          have BB := Lib.hid (Below.refl w.heap.size w)
          go_enter Try.func5, Try.ntmps5
          go_wp2_with fail
          refine (live19_any _).mono ?_
          try dsimp only
          rintro e U1 ⟨rfl, bU1⟩
          replace BB := Lib.hid (below3 BB.out bU1)
          clear bU1
          go_wp2_with fail
          refine (read_en B m d bs _ (HOX.out.below BB.out) HMD.out).mono ?_
          unfold ReadP
          rw [HR.out]
          try dsimp only
          rintro e U2 ⟨D1, d1, rfl, ow, bU2⟩
          replace BB := Lib.hid (below3 BB.out bU2)
          clear bU2
          have T1 := Lib.hid ow
          clear ow
          go_wp2_with fail
          refine (write_en D1 ps.length d1 ps _ T1.out.prog).mono ?_
          unfold WriteP
          rw [HW1.out]
          try dsimp only
          rintro e U3 ⟨D2, d2, rfl, ow, bU3⟩
          replace T1 := Lib.hid (T1.out.below bU3)
          replace BB := Lib.hid (below3 BB.out bU3)
          clear bU3
          have T2 := Lib.hid ow
          clear ow
          have v1 := (T2.out.octs).convert (P := Try.prog) d2 32 5 9 Try.underlying32 Try.underlying5 Try.underlying9
          have v2 := (HOX.out.below BB.out).convert (P := Try.prog) d 32 5 9 Try.underlying32 Try.underlying5 Try.underlying9
          rw [LB.out] at v1 ⊢
          go_wp2_with fail
          refine (check_en D1 ps.length d1 ps _ T1.out.prog).mono ?_
          rw [HCK.out]
          try dsimp only
          rintro e U4 ⟨rfl, bU4⟩
          replace T1 := Lib.hid (T1.out.below bU4)
          replace T2 := Lib.hid (T2.out.below bU4)
          replace BB := Lib.hid (below3 BB.out bU4)
          clear bU4
          clear T2 v1 v2
          clear T1
          go_wp2_with fail
          refine (write_en A n c l _ (HL.out.below BB.out)).mono ?_
          unfold WriteP
          rw [HWL.out]
          try dsimp only
          rintro e U5 ⟨D3, d3, rfl, ow, bU5⟩
          replace BB := Lib.hid (below3 BB.out bU5)
          clear bU5
          clear ow
          go_wp2_with fail
          refine (check_en A n c l _ (HL.out.below BB.out)).mono ?_
          rw [HCL.out]
          try dsimp only
          rintro e U6 ⟨rfl, bU6⟩
          replace BB := Lib.hid (below3 BB.out bU6)
          clear bU6
          go_wp2_with fail
          go_ret
          exact ⟨rfl, BB.out⟩
      · by_cases hw : chkE19 l = 0
        · obtain ⟨⟨ps, pe⟩, hps⟩ : ∃ r, rdR bs = r := ⟨_, rfl⟩
          rw [hps] at hr
          dsimp only at hr
          have HR := Lib.hid hps
          have tr : (pe == 0) = false := by simpa using hr
          clear hps hr
          have HWL : Hid (wrR l = (txE l, 0)) := Lib.hid (wrR_ok hw)
          have HRL : Hid (rdR (txE l) = (l, 0)) := Lib.hid (read_write hw)
          have HSM : Hid (sameP l l = true) := Lib.hid (decide_eq_true rfl)
          have em : wrap64 (3 * (n : Int)) = 3 * (n : Int) := by unfold wrap64; omega
          have em3 : (((txE l).length : Int) == 3 * (n : Int)) = true := by rw [txE_len, LX.out]; simp
          clear hw
          have BB := Lib.hid (Below.refl w.heap.size w)
          go_enter Try.func5, Try.ntmps5
          go_wp2_with fail
          refine (live19_any _).mono ?_
          try dsimp only
          rintro e U1 ⟨rfl, bU1⟩
          replace BB := Lib.hid (below3 BB.out bU1)
          clear bU1
          go_wp2_with fail
          refine (read_en B m d bs _ (HOX.out.below BB.out) HMD.out).mono ?_
          unfold ReadP
          rw [HR.out]
          try dsimp only
          rintro e U2 ⟨D1, d1, rfl, ow, bU2⟩
          replace BB := Lib.hid (below3 BB.out bU2)
          clear bU2
          have T1 := Lib.hid ow
          clear ow
          clear T1
          go_wp2_with fail
          refine (write_en A n c l _ (HL.out.below BB.out)).mono ?_
          unfold WriteP
          rw [HWL.out]
          try dsimp only
          rintro e U3 ⟨D3, d3, rfl, ow, bU3⟩
          replace BB := Lib.hid (below3 BB.out bU3)
          clear bU3
          have T3 := Lib.hid ow
          clear ow
          go_wp2_with fail
          refine (read_en D3 (txE l).length d3 (txE l) _ T3.out.octs T3.out.capN).mono ?_
          unfold ReadP
          rw [HRL.out]
          try dsimp only
          rintro e U4 ⟨D4, d4, rfl, ow, bU4⟩
          replace T3 := Lib.hid (T3.out.below bU4)
          replace BB := Lib.hid (below3 BB.out bU4)
          clear bU4
          have T4 := Lib.hid ow
          clear ow
          go_wp2_with fail
          refine (rsameE_any D4 A l.length d4 n c l l _ T4.out.prog (HL.out.below BB.out)).mono ?_
          rw [HSM.out]
          try dsimp only
          rintro e U5 ⟨rfl, bU5⟩
          replace T3 := Lib.hid (T3.out.below bU5)
          replace T4 := Lib.hid (T4.out.below bU5)
          replace BB := Lib.hid (below3 BB.out bU5)
          clear bU5
          go_wp2_with fail
          go_ret
          exact ⟨rfl, BB.out⟩
        · obtain ⟨⟨ps, pe⟩, hps⟩ : ∃ r, rdR bs = r := ⟨_, rfl⟩
          rw [hps] at hr
          dsimp only at hr
          have HR := Lib.hid hps
          have tr : (pe == 0) = false := by simpa using hr
          clear hps hr
          obtain ⟨we, hwe⟩ : ∃ e, chkE19 l = e := ⟨_, rfl⟩
          have HWL : Hid (wrR l = ([], we)) := Lib.hid (by rw [wrR_no hw, hwe])
          have HCL := Lib.hid hwe
          have tw : (we != 0) = true := by rw [hwe] at hw; simpa using hw
          clear hw hwe
          have BB := Lib.hid (Below.refl w.heap.size w)
          go_enter Try.func5, Try.ntmps5
          go_wp2_with fail
          refine (live19_any _).mono ?_
          try dsimp only
          rintro e U1 ⟨rfl, bU1⟩
          replace BB := Lib.hid (below3 BB.out bU1)
          clear bU1
          go_wp2_with fail
          refine (read_en B m d bs _ (HOX.out.below BB.out) HMD.out).mono ?_
          unfold ReadP
          rw [HR.out]
          try dsimp only
          rintro e U2 ⟨D1, d1, rfl, ow, bU2⟩
          replace BB := Lib.hid (below3 BB.out bU2)
          clear bU2
          have T1 := Lib.hid ow
          clear ow
          clear T1
          go_wp2_with fail
          refine (write_en A n c l _ (HL.out.below BB.out)).mono ?_
          unfold WriteP
          rw [HWL.out]
          try dsimp only
          rintro e U3 ⟨D3, d3, rfl, ow, bU3⟩
          replace BB := Lib.hid (below3 BB.out bU3)
          clear bU3
          clear ow
          go_wp2_with fail
          refine (check_en A n c l _ (HL.out.below BB.out)).mono ?_
          rw [HCL.out]
          try dsimp only
          rintro e U4 ⟨rfl, bU4⟩
          replace BB := Lib.hid (below3 BB.out bU4)
          clear bU4
          go_wp2_with fail
          go_ret
          exact ⟨rfl, BB.out⟩
    · have t0 : decide (1000 < (n : Int)) = false := decide_eq_false (by omega)
      have t0n : decide (1000 < n) = false := decide_eq_false (by omega)
      have t1 : decide (3000 < (m : Int)) = true := decide_eq_true (by omega)
      have t1n : decide (3000 < m) = true := decide_eq_true (by omega)
      clear h1 h2
      have BB := Lib.hid (Below.refl w.heap.size w)
      go_enter Try.func5, Try.ntmps5
      go_wp2_with fail
      refine (live19_any _).mono ?_
      try dsimp only
      rintro e U1 ⟨rfl, bU1⟩
      replace BB := Lib.hid (below3 BB.out bU1)
      clear bU1
      go_wp2_with fail
      go_ret
      exact ⟨rfl, BB.out⟩
  · have t0 : decide (1000 < (n : Int)) = true := decide_eq_true (by omega)
    have t0n : decide (1000 < n) = true := decide_eq_true (by omega)
    clear h1
    have BB := Lib.hid (Below.refl w.heap.size w)
    go_enter Try.func5, Try.ntmps5
    go_wp2_with fail
    refine (live19_any _).mono ?_
    try dsimp only
    rintro e U1 ⟨rfl, bU1⟩
    replace BB := Lib.hid (below3 BB.out bU1)
    clear bU1
    go_wp2_with fail
    go_ret
    exact ⟨rfl, BB.out⟩

end Go.Proofs.Ytpfnoohcilefhaa

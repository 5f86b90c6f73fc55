/-
  Layer 19: the law EntryTexts: the program's answers are the document's.
-/
import Derived.Test.YtpfnoohcilefhaaElv
namespace Go.Proofs.Ytpfnoohcilefhaa
open Go.RowKit

set_option maxHeartbeats 4000000 in
theorem letexts_any (A B : Option Addr) (n c m d : Nat) (l : List I3) (bs : List Int) (kd W wd : Int) (w : World) (hwd : wd ≤ 9223372036854775807) (hl : Prog w A n c l) (hb : OctW w B m bs) (hmd : m ≤ d ∧ d ≤ 9223372036854775807) :
    Calls Try.prog 4 #[.slice A n c, .slice B m d, .int .i64 kd, .int .i64 W, .int .i64 wd] w (RetB (.bool true) w) := by
  have HL := Lib.hid hl
  have HX := Lib.hid hb
  have HMD := Lib.hid hmd
  clear hmd
  have LX := Lib.hid hl.1
  have LB := Lib.hid hb.1
  have hnc := hl.2.1
  clear hl hb
  by_cases h1 : n ≤ 300
  · by_cases h2 : m ≤ 900
    · have hn3 := h1
      have t0 : decide (300 < (n : Int)) = false := decide_eq_false (by omega)
      have t0n : decide (300 < n) = false := decide_eq_false (by omega)
      obtain ⟨⟨xs, xe⟩, h4⟩ : ∃ r, wrR l = r := ⟨_, rfl⟩
      obtain ⟨⟨ps, pe⟩, h5⟩ : ∃ r, rdR bs = r := ⟨_, rfl⟩
      obtain ⟨⟨fv, fe⟩, h6⟩ : ∃ r, fairR l W wd = r := ⟨_, rfl⟩
      obtain ⟨os, h7⟩ : ∃ r, onlyE l kd = r := ⟨_, rfl⟩
      obtain ⟨ce, h8⟩ : ∃ r, chkE19 l = r := ⟨_, rfl⟩
      have H4 := Lib.hid h4
      have H5 := Lib.hid h5
      have H6 := Lib.hid h6
      have H7 := Lib.hid h7
      have H8 := Lib.hid h8
      have H24 : Hid (n * 24 ≤ 140737488351232) := Lib.hid (by omega)
      have HSP : Hid (sameP ps ps = true) := Lib.hid (decide_eq_true rfl)
      have HSO : Hid (sameP os os = true) := Lib.hid (decide_eq_true rfl)
      clear h4 h5 h6 h7 h8
      have t1 : decide (900 < (m : Int)) = false := decide_eq_false (by omega)
      have t1n : decide (900 < m) = false := decide_eq_false (by omega)
      clear h1 h2
      have BB := Lib.hid (Below.refl w.heap.size w)
      go_enter Try.func4, Try.ntmps4
      go_wp2_with fail
      refine (live19_any _).mono ?_
      try dsimp only
      rintro e U1 ⟨rfl, bU1⟩
      replace BB := Lib.hid (below3 BB.out bU1)
      clear bU1
      go_wp2_with fail
      refine (write_en A n c l _ (HL.out.below BB.out)).mono ?_
      unfold WriteP
      rw [H4.out]
      try dsimp only
      rintro e U2 ⟨D1, d1, rfl, ow, bU2⟩
      replace BB := Lib.hid (below3 BB.out bU2)
      clear bU2
      have T1 := Lib.hid ow
      clear ow
      go_wp2_with fail
      refine (rwriteE_any A n c l _ (HL.out.below BB.out)).mono ?_
      unfold WriteP
      rw [H4.out]
      try dsimp only
      rintro e U3 ⟨D2, d2, rfl, ow, bU3⟩
      replace T1 := Lib.hid (T1.out.below bU3)
      replace BB := Lib.hid (below3 BB.out bU3)
      clear bU3
      have T2 := Lib.hid ow
      clear ow
      go_wp2_with fail
      refine (readW_en B m d bs _ (HX.out.below BB.out) HMD.out).mono ?_
      unfold ReadP
      rw [H5.out]
      try dsimp only
      rintro e U4 ⟨D3, d3, rfl, ow, bU4⟩
      replace T1 := Lib.hid (T1.out.below bU4)
      replace T2 := Lib.hid (T2.out.below bU4)
      replace BB := Lib.hid (below3 BB.out bU4)
      clear bU4
      have T3 := Lib.hid ow
      clear ow
      go_wp2_with fail
      refine (rreadW_any B m d bs _ (HX.out.below BB.out) HMD.out).mono ?_
      unfold ReadP
      rw [H5.out]
      try dsimp only
      rintro e U5 ⟨D4, d4, rfl, ow, bU5⟩
      replace T1 := Lib.hid (T1.out.below bU5)
      replace T2 := Lib.hid (T2.out.below bU5)
      replace T3 := Lib.hid (T3.out.below bU5)
      replace BB := Lib.hid (below3 BB.out bU5)
      clear bU5
      have T4 := Lib.hid ow
      clear ow
      go_wp2_with fail
      refine (fair_en A n c l W wd _ hwd H24.out (HL.out.below BB.out)).mono ?_
      rw [H6.out]
      try dsimp only
      rintro e U6 ⟨rfl, bU6⟩
      replace T1 := Lib.hid (T1.out.below bU6)
      replace T2 := Lib.hid (T2.out.below bU6)
      replace T3 := Lib.hid (T3.out.below bU6)
      replace T4 := Lib.hid (T4.out.below bU6)
      replace BB := Lib.hid (below3 BB.out bU6)
      clear bU6
      go_wp2_with fail
      refine (rfairE_any A n c l W wd _ hwd H24.out (HL.out.below BB.out)).mono ?_
      rw [H6.out]
      try dsimp only
      rintro e U7 ⟨rfl, bU7⟩
      replace T1 := Lib.hid (T1.out.below bU7)
      replace T2 := Lib.hid (T2.out.below bU7)
      replace T3 := Lib.hid (T3.out.below bU7)
      replace T4 := Lib.hid (T4.out.below bU7)
      replace BB := Lib.hid (below3 BB.out bU7)
      clear bU7
      have v1 := (T1.out.octs).convert (P := Try.prog) d1 32 5 9 Try.underlying32 Try.underlying5 Try.underlying9
      have v2 := (T2.out.octs).convert (P := Try.prog) d2 32 5 9 Try.underlying32 Try.underlying5 Try.underlying9
      go_wp2_with fail
      refine (rsameE_any D3 D4 ps.length d3 ps.length d4 ps ps _ T3.out.prog T4.out.prog).mono ?_
      rw [HSP.out]
      try dsimp only
      rintro e U8 ⟨rfl, bU8⟩
      replace T1 := Lib.hid (T1.out.below bU8)
      replace T2 := Lib.hid (T2.out.below bU8)
      replace T3 := Lib.hid (T3.out.below bU8)
      replace T4 := Lib.hid (T4.out.below bU8)
      replace BB := Lib.hid (below3 BB.out bU8)
      clear bU8
      clear T1 T2 T3 T4 v1 v2
      go_wp2_with fail
      refine (only_en A n c l kd _ H24.out (HL.out.below BB.out)).mono ?_
      unfold NewEn
      rw [H7.out]
      try dsimp only
      rintro e U9 ⟨D5, d5, rfl, ow, bU9⟩
      replace BB := Lib.hid (below3 BB.out bU9)
      clear bU9
      have T5 := Lib.hid ow
      clear ow
      go_wp2_with fail
      refine (ronly_any A n c l kd _ H24.out (HL.out.below BB.out)).mono ?_
      unfold NewEn
      rw [H7.out]
      try dsimp only
      rintro e U10 ⟨D6, d6, rfl, ow, bU10⟩
      replace T5 := Lib.hid (T5.out.below bU10)
      replace BB := Lib.hid (below3 BB.out bU10)
      clear bU10
      have T6 := Lib.hid ow
      clear ow
      go_wp2_with fail
      refine (rsameE_any D5 D6 os.length d5 os.length d6 os os _ T5.out.prog T6.out.prog).mono ?_
      rw [HSO.out]
      try dsimp only
      rintro e U11 ⟨rfl, bU11⟩
      replace T5 := Lib.hid (T5.out.below bU11)
      replace T6 := Lib.hid (T6.out.below bU11)
      replace BB := Lib.hid (below3 BB.out bU11)
      clear bU11
      go_wp2_with fail
      refine (check_en A n c l _ (HL.out.below BB.out)).mono ?_
      rw [H8.out]
      try dsimp only
      rintro e U12 ⟨rfl, bU12⟩
      replace T5 := Lib.hid (T5.out.below bU12)
      replace T6 := Lib.hid (T6.out.below bU12)
      replace BB := Lib.hid (below3 BB.out bU12)
      clear bU12
      go_wp2_with fail
      refine (rcheckE_any A n c l _ (HL.out.below BB.out)).mono ?_
      rw [H8.out]
      try dsimp only
      rintro e U13 ⟨rfl, bU13⟩
      replace T5 := Lib.hid (T5.out.below bU13)
      replace T6 := Lib.hid (T6.out.below bU13)
      replace BB := Lib.hid (below3 BB.out bU13)
      clear bU13
      go_wp2_with fail
      go_ret
      exact ⟨rfl, BB.out⟩
    · by_cases h3 : m ≤ 196608
      · have t0 : decide (300 < (n : Int)) = false := decide_eq_false (by omega)
        have t0n : decide (300 < n) = false := decide_eq_false (by omega)
        have t1 : decide (900 < (m : Int)) = true := decide_eq_true (by omega)
        have t1n : decide (900 < m) = true := decide_eq_true (by omega)
        have t2 : decide ((m : Int) ≤ 196608) = true := decide_eq_true (by omega)
        have t2n : decide (m ≤ 196608) = true := decide_eq_true (by omega)
        clear h1 h2 h3
        have BB := Lib.hid (Below.refl w.heap.size w)
        go_enter Try.func4, Try.ntmps4
        go_wp2_with fail
        refine (live19_any _).mono ?_
        try dsimp only
        rintro e U1 ⟨rfl, bU1⟩
        replace BB := Lib.hid (below3 BB.out bU1)
        clear bU1
        go_wp2_with fail
        go_ret
        exact ⟨rfl, BB.out⟩
      · have hn3 := h1
        have t0 : decide (300 < (n : Int)) = false := decide_eq_false (by omega)
        have t0n : decide (300 < n) = false := decide_eq_false (by omega)
        obtain ⟨⟨xs, xe⟩, h4⟩ : ∃ r, wrR l = r := ⟨_, rfl⟩
        obtain ⟨⟨ps, pe⟩, h5⟩ : ∃ r, rdR bs = r := ⟨_, rfl⟩
        obtain ⟨⟨fv, fe⟩, h6⟩ : ∃ r, fairR l W wd = r := ⟨_, rfl⟩
        obtain ⟨os, h7⟩ : ∃ r, onlyE l kd = r := ⟨_, rfl⟩
        obtain ⟨ce, h8⟩ : ∃ r, chkE19 l = r := ⟨_, rfl⟩
        have H4 := Lib.hid h4
        have H5 := Lib.hid h5
        have H6 := Lib.hid h6
        have H7 := Lib.hid h7
        have H8 := Lib.hid h8
        have H24 : Hid (n * 24 ≤ 140737488351232) := Lib.hid (by omega)
        have HSP : Hid (sameP ps ps = true) := Lib.hid (decide_eq_true rfl)
        have HSO : Hid (sameP os os = true) := Lib.hid (decide_eq_true rfl)
        clear h4 h5 h6 h7 h8
        have t1 : decide (900 < (m : Int)) = true := decide_eq_true (by omega)
        have t1n : decide (900 < m) = true := decide_eq_true (by omega)
        have t2 : decide ((m : Int) ≤ 196608) = false := decide_eq_false (by omega)
        have t2n : decide (m ≤ 196608) = false := decide_eq_false (by omega)
        clear h1 h2 h3
        have BB := Lib.hid (Below.refl w.heap.size w)
        go_enter Try.func4, Try.ntmps4
        go_wp2_with fail
        refine (live19_any _).mono ?_
        try dsimp only
        rintro e U1 ⟨rfl, bU1⟩
        replace BB := Lib.hid (below3 BB.out bU1)
        clear bU1
        go_wp2_with fail
        refine (write_en A n c l _ (HL.out.below BB.out)).mono ?_
        unfold WriteP
        rw [H4.out]
        try dsimp only
        rintro e U2 ⟨D1, d1, rfl, ow, bU2⟩
        replace BB := Lib.hid (below3 BB.out bU2)
        clear bU2
        have T1 := Lib.hid ow
        clear ow
        go_wp2_with fail
        refine (rwriteE_any A n c l _ (HL.out.below BB.out)).mono ?_
        unfold WriteP
        rw [H4.out]
        try dsimp only
        rintro e U3 ⟨D2, d2, rfl, ow, bU3⟩
        replace T1 := Lib.hid (T1.out.below bU3)
        replace BB := Lib.hid (below3 BB.out bU3)
        clear bU3
        have T2 := Lib.hid ow
        clear ow
        go_wp2_with fail
        refine (readW_en B m d bs _ (HX.out.below BB.out) HMD.out).mono ?_
        unfold ReadP
        rw [H5.out]
        try dsimp only
        rintro e U4 ⟨D3, d3, rfl, ow, bU4⟩
        replace T1 := Lib.hid (T1.out.below bU4)
        replace T2 := Lib.hid (T2.out.below bU4)
        replace BB := Lib.hid (below3 BB.out bU4)
        clear bU4
        have T3 := Lib.hid ow
        clear ow
        go_wp2_with fail
        refine (rreadW_any B m d bs _ (HX.out.below BB.out) HMD.out).mono ?_
        unfold ReadP
        rw [H5.out]
        try dsimp only
        rintro e U5 ⟨D4, d4, rfl, ow, bU5⟩
        replace T1 := Lib.hid (T1.out.below bU5)
        replace T2 := Lib.hid (T2.out.below bU5)
        replace T3 := Lib.hid (T3.out.below bU5)
        replace BB := Lib.hid (below3 BB.out bU5)
        clear bU5
        have T4 := Lib.hid ow
        clear ow
        go_wp2_with fail
        refine (fair_en A n c l W wd _ hwd H24.out (HL.out.below BB.out)).mono ?_
        rw [H6.out]
        try dsimp only
        rintro e U6 ⟨rfl, bU6⟩
        replace T1 := Lib.hid (T1.out.below bU6)
        replace T2 := Lib.hid (T2.out.below bU6)
        replace T3 := Lib.hid (T3.out.below bU6)
        replace T4 := Lib.hid (T4.out.below bU6)
        replace BB := Lib.hid (below3 BB.out bU6)
        clear bU6
        go_wp2_with fail
        refine (rfairE_any A n c l W wd _ hwd H24.out (HL.out.below BB.out)).mono ?_
        rw [H6.out]
        try dsimp only
        rintro e U7 ⟨rfl, bU7⟩
        replace T1 := Lib.hid (T1.out.below bU7)
        replace T2 := Lib.hid (T2.out.below bU7)
        replace T3 := Lib.hid (T3.out.below bU7)
        replace T4 := Lib.hid (T4.out.below bU7)
        replace BB := Lib.hid (below3 BB.out bU7)
        clear bU7
        have v1 := (T1.out.octs).convert (P := Try.prog) d1 32 5 9 Try.underlying32 Try.underlying5 Try.underlying9
        have v2 := (T2.out.octs).convert (P := Try.prog) d2 32 5 9 Try.underlying32 Try.underlying5 Try.underlying9
        go_wp2_with fail
        refine (rsameE_any D3 D4 ps.length d3 ps.length d4 ps ps _ T3.out.prog T4.out.prog).mono ?_
        rw [HSP.out]
        try dsimp only
        rintro e U8 ⟨rfl, bU8⟩
        replace T1 := Lib.hid (T1.out.below bU8)
        replace T2 := Lib.hid (T2.out.below bU8)
        replace T3 := Lib.hid (T3.out.below bU8)
        replace T4 := Lib.hid (T4.out.below bU8)
        replace BB := Lib.hid (below3 BB.out bU8)
        clear bU8
        clear T1 T2 T3 T4 v1 v2
        go_wp2_with fail
        refine (only_en A n c l kd _ H24.out (HL.out.below BB.out)).mono ?_
        unfold NewEn
        rw [H7.out]
        try dsimp only
        rintro e U9 ⟨D5, d5, rfl, ow, bU9⟩
        replace BB := Lib.hid (below3 BB.out bU9)
        clear bU9
        have T5 := Lib.hid ow
        clear ow
        go_wp2_with fail
        refine (ronly_any A n c l kd _ H24.out (HL.out.below BB.out)).mono ?_
        unfold NewEn
        rw [H7.out]
        try dsimp only
        rintro e U10 ⟨D6, d6, rfl, ow, bU10⟩
        replace T5 := Lib.hid (T5.out.below bU10)
        replace BB := Lib.hid (below3 BB.out bU10)
        clear bU10
        have T6 := Lib.hid ow
        clear ow
        go_wp2_with fail
        refine (rsameE_any D5 D6 os.length d5 os.length d6 os os _ T5.out.prog T6.out.prog).mono ?_
        rw [HSO.out]
        try dsimp only
        rintro e U11 ⟨rfl, bU11⟩
        replace T5 := Lib.hid (T5.out.below bU11)
        replace T6 := Lib.hid (T6.out.below bU11)
        replace BB := Lib.hid (below3 BB.out bU11)
        clear bU11
        go_wp2_with fail
        refine (check_en A n c l _ (HL.out.below BB.out)).mono ?_
        rw [H8.out]
        try dsimp only
        rintro e U12 ⟨rfl, bU12⟩
        replace T5 := Lib.hid (T5.out.below bU12)
        replace T6 := Lib.hid (T6.out.below bU12)
        replace BB := Lib.hid (below3 BB.out bU12)
        clear bU12
        go_wp2_with fail
        refine (rcheckE_any A n c l _ (HL.out.below BB.out)).mono ?_
        rw [H8.out]
        try dsimp only
        rintro e U13 ⟨rfl, bU13⟩
        replace T5 := Lib.hid (T5.out.below bU13)
        replace T6 := Lib.hid (T6.out.below bU13)
        replace BB := Lib.hid (below3 BB.out bU13)
        clear bU13
        go_wp2_with fail
        go_ret
        exact ⟨rfl, BB.out⟩
  · have t0 : decide (300 < (n : Int)) = true := decide_eq_true (by omega)
    have t0n : decide (300 < n) = true := decide_eq_true (by omega)
    clear h1
    have BB := Lib.hid (Below.refl w.heap.size w)
    go_enter Try.func4, Try.ntmps4
    go_wp2_with fail
    refine (live19_any _).mono ?_
    try dsimp only
    rintro e U1 ⟨rfl, bU1⟩
    replace BB := Lib.hid (below3 BB.out bU1)
    clear bU1
    go_wp2_with fail
    go_ret
    exact ⟨rfl, BB.out⟩

end Go.Proofs.Ytpfnoohcilefhaa

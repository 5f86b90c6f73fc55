/-
  The walk of the law CellRuns: for every input it comes to true; nothing that was there has changed.
-/
import Derived.Test.YtmmilceemnggiaaCRall
import Derived.Test.YtmmilceemnggiaaCBack
namespace Go.Proofs.Ytmmilceemnggiaa
open Go.RowKit

section
variable (A A' : Option Addr) (n c m c' : Nat) (zs : List Int) (l : List M) (w : World)

set_option maxHeartbeats 800000 in
set_option maxRecDepth 100000 in
theorem runs_s1 (_hn : n ≤ 9223372036854775807) (_hm : m ≤ 9223372036854775807) (h : 300 < n) :
    Calls Try.prog 5 #[.slice A n c, .slice A' m c'] w (TrueAns w) := by
  have d1 : decide ((300 : Int) < n) = true := by simp; omega
  go_enter Try.func5, Try.ntmps5
  go_wp2_with fail
  refine (live_any _).mono ?_
  rintro e w1 ⟨rfl, hb1⟩
  have HB1 := Lib.hid hb1
  clear hb1
  go_wp2
  go_ret
  exact ⟨rfl, HB1.out⟩

set_option maxHeartbeats 800000 in
set_option maxRecDepth 100000 in
theorem runs_s2 (_hn : n ≤ 9223372036854775807) (_hm : m ≤ 9223372036854775807) (h : n ≤ 300) (h2 : 200 < m) :
    Calls Try.prog 5 #[.slice A n c, .slice A' m c'] w (TrueAns w) := by
  have d1 : decide ((300 : Int) < n) = false := by simp; omega
  have d2 : decide ((200 : Int) < m) = true := by simp; omega
  go_enter Try.func5, Try.ntmps5
  go_wp2_with fail
  refine (live_any _).mono ?_
  rintro e w1 ⟨rfl, hb1⟩
  have HB1 := Lib.hid hb1
  clear hb1
  go_wp2
  go_ret
  exact ⟨rfl, HB1.out⟩

set_option maxHeartbeats 800000 in
set_option maxRecDepth 100000 in
theorem runs_in (hx : Ints w A n zs) (hl : Mics w A' m l) (h : n ≤ 300) (h2 : m ≤ 200) :
    Calls Try.prog 5 #[.slice A n c, .slice A' m c'] w (TrueAns w) := by
  have hle : n ≤ 65536 := by omega
  generalize e : runK zs l m = r
  obtain ⟨cs, ts, y⟩ := r
  have E := Lib.hid e
  have HX := Lib.hid hx
  have HL := Lib.hid hl
  clear e hx hl
  go_enter Try.func5, Try.ntmps5
  go_wp2_with fail
  refine (live_any _).mono ?_
  rintro e w1 ⟨rfl, hb1⟩
  have HB1 := Lib.hid hb1
  clear hb1
  go_wp2_with fail
  refine (all_any _ _ _ _ _ _ zs l _ ((HX.out).below HB1.out) hle ((HL.out).below HB1.out)).mono ?_
  rw [E.out]
  rintro e w2 ⟨A2, c2, B2, d2, rfl, ho2, ht2, hb2⟩
  have HB2 := Lib.hid hb2
  have HO2 := Lib.hid ho2
  clear hb2 ho2
  have HT2 := Lib.hid ht2
  clear ht2
  simp only []
  go_wp2_with fail
  refine (rall_any _ _ _ _ _ _ zs l _ (((HX.out).below HB1.out).below HB2.out) hle (((HL.out).below HB1.out).below HB2.out)).mono ?_
  rw [E.out]
  rintro e w3 ⟨A3, c3, B3, d3, rfl, ho3, ht3, hb3⟩
  have HB3 := Lib.hid hb3
  have HO3 := Lib.hid ho3
  clear hb3 ho3
  have HT3 := Lib.hid ht3
  clear ht3
  simp only []
  go_wp2_with fail
  refine (rsame_b _ _ _ _ _ _ cs cs _ ((HO2.out).below HB3.out).ints (HO3.out).ints).mono ?_
  rw [sameB_self]
  rintro e w4 ⟨rfl, hb4⟩
  have HB4 := Lib.hid hb4
  clear hb4
  simp only []
  go_wp2_with fail
  refine (rsame_b _ _ _ _ _ _ ts ts _ (((HT2.out).below HB3.out).below HB4.out).ints ((HT3.out).below HB4.out).ints).mono ?_
  rw [sameB_self]
  rintro e w5 ⟨rfl, hb5⟩
  have HB5 := Lib.hid hb5
  clear hb5
  simp only []
  go_wp2
  go_ret
  exact ⟨rfl, below3 (below3 (below3 (below3 (HB1.out) HB2.out) HB3.out) HB4.out) HB5.out⟩

theorem runs_any (hx : Ints w A n zs) (hl : Mics w A' m l) :
    Calls Try.prog 5 #[.slice A n c, .slice A' m c'] w (TrueAns w) := by
  have hm := hx.2.1
  have hm2 := hl.2.1
  by_cases h : n ≤ 300
  · by_cases h2 : m ≤ 200
    · exact runs_in A A' n c m c' zs l w hx hl h h2
    · exact runs_s2 A A' n c m c' w (by omega) (by omega) h (by omega)
  · exact runs_s1 A A' n c m c' w (by omega) (by omega) (by omega)
end

end Go.Proofs.Ytmmilceemnggiaa

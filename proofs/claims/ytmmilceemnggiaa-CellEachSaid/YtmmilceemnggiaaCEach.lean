/-
  The walk of the law CellEach: for every input it comes to true; nothing that was there has changed.
-/
import Derived.Test.YtmmilceemnggiaaCBack
namespace Go.Proofs.Ytmmilceemnggiaa
open Go.RowKit

section
variable (A : Option Addr) (n c : Nat) (zs : List Int) (p a b : Int) (w : World)

set_option maxHeartbeats 800000 in
set_option maxRecDepth 100000 in
theorem each_big (h : 300 < n) (hm : n ≤ 9223372036854775807) :
    Calls Try.prog 4 #[.slice A n c, .int .i64 p, .int .i64 a, .int .i64 b] w (TrueAns w) := by
  go_enter Try.func4, Try.ntmps4
  go_wp2_with fail
  refine (live_any _).mono ?_
  rintro e w1 ⟨rfl, hb1⟩
  have HB1 := Lib.hid hb1
  clear hb1
  go_wp2
  go_ret
  exact ⟨rfl, HB1.out⟩

set_option maxHeartbeats 800000 in
set_option maxRecDepth 100000 in
theorem each_small (hx : Ints w A n zs) (h : n ≤ 300) (fa : Fit a) (fb : Fit b) :
    Calls Try.prog 4 #[.slice A n c, .int .i64 p, .int .i64 a, .int .i64 b] w (TrueAns w) := by
  have bx := hx.2.1
  generalize e0 : doo zs 0 p 0 0 = r0
  generalize e1 : doo zs 1 p a 0 = r1
  generalize e2 : doo zs 2 p a b = r2
  generalize e3 : doo zs 3 p a 0 = r3
  obtain ⟨cs0, x0, y0⟩ := r0
  obtain ⟨cs1, x1, y1⟩ := r1
  obtain ⟨cs2, x2, y2⟩ := r2
  obtain ⟨cs3, x3, y3⟩ := r3
  have E0 := Lib.hid e0
  have E1 := Lib.hid e1
  have E2 := Lib.hid e2
  have E3 := Lib.hid e3
  have HX := Lib.hid hx
  have FA := Lib.hid fa
  have FB := Lib.hid fb
  clear e0 e1 e2 e3 hx fa fb
  go_enter Try.func4, Try.ntmps4
  go_wp2_with fail
  refine (live_any _).mono ?_
  rintro e w1 ⟨rfl, hb1⟩
  have HB1 := Lib.hid hb1
  clear hb1
  go_wp2_with (at_builtin; refine wpList_append_ints _ rfl _ _ 23 rfl 2 Try.underlying23 infoI w1.heap.size _ _ [] 0 rfl rfl (OwnI.nil_ _ w1 _) _ _ _ zs rfl ((HX.out).below HB1.out) (by simpa using bx) (by simp) ?_; intro A2 c2 w2 ho2 hg2; rw [List.nil_append] at ho2 ⊢; have HO2 := Lib.hid ho2; have HB2 := Lib.hid ((Below.refl w1.heap.size w1).grown hg2 (Nat.le_refl _) (by simp [Value.ownBlock])); clear ho2 hg2)
  go_wp2_with fail
  refine (load_any _ _ _ zs _ _ (((HX.out).below HB1.out).below HB2.out)).mono ?_
  rw [E0.out]
  rintro e w3 ⟨rfl, hb3⟩
  have HB3 := Lib.hid hb3
  clear hb3
  simp only []
  go_wp2_with fail
  refine (rdo_any _ _ _ zs _ _ _ _ _ ((((HX.out).below HB1.out).below HB2.out).below HB3.out) f0 f0).mono ?_
  rw [E0.out]
  rintro e w4 ⟨A4, c4, rfl, ho4, hb4⟩
  have HB4 := Lib.hid hb4
  have HO4 := Lib.hid ho4
  clear hb4 ho4
  simp only []
  go_wp2_with fail
  refine (store_any _ _ _ zs _ _ _ (((((HX.out).below HB1.out).below HB2.out).below HB3.out).below HB4.out) FA.out).mono ?_
  rw [E1.out]
  rintro e w5 ⟨A5, c5, rfl, ho5, hb5⟩
  have HB5 := Lib.hid hb5
  have HO5 := Lib.hid ho5
  clear hb5 ho5
  simp only []
  go_wp2_with fail
  refine (rdo_any _ _ _ zs _ _ _ _ _ ((((((HX.out).below HB1.out).below HB2.out).below HB3.out).below HB4.out).below HB5.out) FA.out f0).mono ?_
  rw [E1.out]
  rintro e w6 ⟨A6, c6, rfl, ho6, hb6⟩
  have HB6 := Lib.hid hb6
  have HO6 := Lib.hid ho6
  clear hb6 ho6
  simp only []
  go_wp2_with fail
  refine (rsame_b _ _ _ _ _ _ cs1 cs1 _ ((HO5.out).below HB6.out).ints (HO6.out).ints).mono ?_
  rw [sameB_self]
  rintro e w7 ⟨rfl, hb7⟩
  have HB7 := Lib.hid hb7
  clear hb7
  simp only []
  go_wp2_with fail
  refine (cas_any _ _ _ zs _ _ _ _ ((((((((HX.out).below HB1.out).below HB2.out).below HB3.out).below HB4.out).below HB5.out).below HB6.out).below HB7.out) FA.out FB.out).mono ?_
  rw [E2.out]
  rintro e w8 ⟨A8, c8, rfl, ho8, hb8⟩
  have HB8 := Lib.hid hb8
  have HO8 := Lib.hid ho8
  clear hb8 ho8
  simp only []
  go_wp2_with fail
  refine (rdo_any _ _ _ zs _ _ _ _ _ (((((((((HX.out).below HB1.out).below HB2.out).below HB3.out).below HB4.out).below HB5.out).below HB6.out).below HB7.out).below HB8.out) FA.out FB.out).mono ?_
  rw [E2.out]
  rintro e w9 ⟨A9, c9, rfl, ho9, hb9⟩
  have HB9 := Lib.hid hb9
  have HO9 := Lib.hid ho9
  clear hb9 ho9
  simp only []
  go_wp2_with fail
  refine (rsame_b _ _ _ _ _ _ cs2 cs2 _ ((HO8.out).below HB9.out).ints (HO9.out).ints).mono ?_
  rw [sameB_self]
  rintro e w10 ⟨rfl, hb10⟩
  have HB10 := Lib.hid hb10
  clear hb10
  simp only []
  go_wp2_with fail
  refine (add_any _ _ _ zs _ _ _ (((((((((((HX.out).below HB1.out).below HB2.out).below HB3.out).below HB4.out).below HB5.out).below HB6.out).below HB7.out).below HB8.out).below HB9.out).below HB10.out) FA.out).mono ?_
  rw [E3.out]
  rintro e w11 ⟨A11, c11, rfl, ho11, hb11⟩
  have HB11 := Lib.hid hb11
  have HO11 := Lib.hid ho11
  clear hb11 ho11
  simp only []
  go_wp2_with fail
  refine (rdo_any _ _ _ zs _ _ _ _ _ ((((((((((((HX.out).below HB1.out).below HB2.out).below HB3.out).below HB4.out).below HB5.out).below HB6.out).below HB7.out).below HB8.out).below HB9.out).below HB10.out).below HB11.out) FA.out f0).mono ?_
  rw [E3.out]
  rintro e w12 ⟨A12, c12, rfl, ho12, hb12⟩
  have HB12 := Lib.hid hb12
  have HO12 := Lib.hid ho12
  clear hb12 ho12
  simp only []
  go_wp2_with fail
  refine (rsame_b _ _ _ _ _ _ cs3 cs3 _ ((HO11.out).below HB12.out).ints (HO12.out).ints).mono ?_
  rw [sameB_self]
  rintro e w13 ⟨rfl, hb13⟩
  have HB13 := Lib.hid hb13
  clear hb13
  simp only []
  go_wp2_with fail
  refine (rsame_b _ _ _ _ _ _ zs zs _ ((((((((((((((HX.out).below HB1.out).below HB2.out).below HB3.out).below HB4.out).below HB5.out).below HB6.out).below HB7.out).below HB8.out).below HB9.out).below HB10.out).below HB11.out).below HB12.out).below HB13.out) ((((((((((((HO2.out).below HB3.out).below HB4.out).below HB5.out).below HB6.out).below HB7.out).below HB8.out).below HB9.out).below HB10.out).below HB11.out).below HB12.out).below HB13.out).ints).mono ?_
  rw [sameB_self]
  rintro e w14 ⟨rfl, hb14⟩
  have HB14 := Lib.hid hb14
  clear hb14
  simp only []
  go_wp2
  go_ret
  exact ⟨rfl, below3 (below3 (below3 (below3 (below3 (below3 (below3 (below3 (below3 (below3 (below3 (below3 (below3 (HB1.out) HB2.out) HB3.out) HB4.out) HB5.out) HB6.out) HB7.out) HB8.out) HB9.out) HB10.out) HB11.out) HB12.out) HB13.out) HB14.out⟩

theorem each_any (hx : Ints w A n zs) (fa : Fit a) (fb : Fit b) :
    Calls Try.prog 4 #[.slice A n c, .int .i64 p, .int .i64 a, .int .i64 b] w (TrueAns w) := by
  have hm := hx.2.1
  by_cases h : 300 < n
  · exact each_big A n c p a b w h (by omega)
  · exact each_small A n c zs p a b w hx (by omega) fa fb
end

end Go.Proofs.Ytmmilceemnggiaa

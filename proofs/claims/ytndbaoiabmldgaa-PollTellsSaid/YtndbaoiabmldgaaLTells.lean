/-
  The law PollTells: new descriptors, whether any may be, who waits, whether two are the same: the walk.
-/
import Derived.Test.YtndbaoiabmldgaaLv
namespace Go.Proofs.Ytndbaoiabmldgaa
open Go.RowKit

set_option maxRecDepth 100000 in
set_option maxHeartbeats 8000000 in
theorem ltells_any (m : Int) (A B : Option Addr) (n c n' c' : Nat) (l o : List Ds) (w : World) (hx : Dss w A n c l) (hy : Dss w B n' c' o) :
    Calls Try.prog 4 #[.int .i64 m, .slice A n c, .slice B n' c'] w (TrueAns w) := by
  have HX := Lib.hid hx
  have HY := Lib.hid hy
  have hnc := hx.2.1
  have hnc' := hy.2.1
  clear hx hy
  go_enter Try.func4, Try.ntmps4
  go_wp2_with fail
  refine (live_any _).mono ?_
  rintro e w0 ⟨rfl, b0⟩
  replace HX := Lib.hid (HX.out.below b0)
  replace HY := Lib.hid (HY.out.below b0)
  have BB := Lib.hid b0
  clear b0
  by_cases h60 : 60 < n
  · go_wp2_with fail
    go_ret
    exact ⟨rfl, BB.out⟩
  · by_cases h60' : 60 < n'
    · go_wp2_with fail
      go_ret
      exact ⟨rfl, BB.out⟩
    · obtain ⟨⟨e1, p1⟩, hr1⟩ : ∃ r, newR m = r := ⟨_, rfl⟩
      obtain ⟨q1, hq1⟩ : ∃ q, p1.length = q := ⟨_, rfl⟩
      obtain ⟨⟨e2, ws⟩, hr2⟩ : ∃ r, waitsR l = r := ⟨_, rfl⟩
      obtain ⟨q2, hq2⟩ : ∃ q, ws.length = q := ⟨_, rfl⟩
      obtain ⟨e3, he3⟩ : ∃ e : Int, (if pollOk l then 0 else 1) = e := ⟨_, rfl⟩
      obtain ⟨b5, hb5⟩ : ∃ b, sameD l o = b := ⟨_, rfl⟩
      have HR1 := Lib.hid hr1
      have HQ1 := Lib.hid hq1
      have HR2 := Lib.hid hr2
      have HQ2 := Lib.hid hq2
      have HE3 := Lib.hid he3
      have HB5 := Lib.hid hb5
      clear hr1 hq1 hr2 hq2 he3 hb5
      go_wp2_with fail
      refine (pnew_any m _).mono ?_
      rw [HR1.out]
      rintro e w1 ⟨A1, c1, rfl, o1, b1⟩
      have d1 := o1.dss
      dsimp only at d1 ⊢
      rw [HQ1.out] at d1 ⊢
      have D1 := Lib.hid d1
      replace HX := Lib.hid (HX.out.below b1)
      replace HY := Lib.hid (HY.out.below b1)
      replace BB := Lib.hid (below3 BB.out b1)
      clear o1 b1 d1
      go_wp2_with fail
      refine (rnew_any m _).mono ?_
      rw [HR1.out]
      rintro e w2 ⟨A2, c2, rfl, o2, b2⟩
      have d2 := o2.dss
      dsimp only at d2 ⊢
      rw [HQ1.out] at d2 ⊢
      have D2 := Lib.hid d2
      replace D1 := Lib.hid (D1.out.below b2)
      replace HX := Lib.hid (HX.out.below b2)
      replace HY := Lib.hid (HY.out.below b2)
      replace BB := Lib.hid (below3 BB.out b2)
      clear o2 b2 d2
      go_wp2_with fail
      refine (pwaitsl_any A n c l _ HX.out).mono ?_
      rw [HR2.out]
      rintro e w3 ⟨A3, c3, rfl, o3, b3, hc3⟩
      have i3 := o3.ints
      dsimp only at i3 hc3 ⊢
      rw [HQ2.out] at i3 hc3 ⊢
      have I3 := Lib.hid i3
      replace D1 := Lib.hid (D1.out.below b3)
      replace D2 := Lib.hid (D2.out.below b3)
      replace HX := Lib.hid (HX.out.below b3)
      replace HY := Lib.hid (HY.out.below b3)
      replace BB := Lib.hid (below3 BB.out b3)
      clear o3 b3 i3
      go_wp2_with fail
      refine (rwaits_any A n c l _ HX.out).mono ?_
      rw [HR2.out]
      rintro e w4 ⟨A4, c4, rfl, o4, b4, hc4⟩
      have i4 := o4.ints
      dsimp only at i4 hc4 ⊢
      rw [HQ2.out] at i4 hc4 ⊢
      have I4 := Lib.hid i4
      replace I3 := Lib.hid (I3.out.below b4)
      replace D1 := Lib.hid (D1.out.below b4)
      replace D2 := Lib.hid (D2.out.below b4)
      replace HX := Lib.hid (HX.out.below b4)
      replace HY := Lib.hid (HY.out.below b4)
      replace BB := Lib.hid (below3 BB.out b4)
      clear o4 b4 i4
      have t1 : (e1 == e1) = true := by simp
      have t2 : (e2 == e2) = true := by simp
      have t3 : (e3 == e3) = true := by simp
      have t5 : (b5 == b5) = true := by simp
      go_wp2_with fail
      refine (rsame_any A1 A2 q1 c1 q1 c2 p1 p1 _ D1.out D2.out).mono ?_
      rw [sameD_refl]
      rintro e w5 ⟨rfl, b5'⟩
      replace I3 := Lib.hid (I3.out.below b5')
      replace I4 := Lib.hid (I4.out.below b5')
      replace HX := Lib.hid (HX.out.below b5')
      replace HY := Lib.hid (HY.out.below b5')
      replace BB := Lib.hid (below3 BB.out b5')
      clear b5' D1 D2
      go_wp2_with fail
      refine (same1_any A3 A4 q2 c3 q2 c4 ws ws _ I3.out I4.out hc3 hc4).mono ?_
      rw [sameZ_refl]
      rintro e w6 ⟨rfl, b6⟩
      replace HX := Lib.hid (HX.out.below b6)
      replace HY := Lib.hid (HY.out.below b6)
      replace BB := Lib.hid (below3 BB.out b6)
      clear b6 I3 I4
      go_wp2_with fail
      refine (pcheck_any A n c l _ HX.out).mono ?_
      rw [HE3.out]
      rintro e w7 ⟨rfl, b7⟩
      replace HX := Lib.hid (HX.out.below b7)
      replace HY := Lib.hid (HY.out.below b7)
      replace BB := Lib.hid (below3 BB.out b7)
      clear b7
      go_wp2_with fail
      refine (rcheck_any A n c l _ HX.out).mono ?_
      rw [HE3.out]
      rintro e w8 ⟨rfl, b8⟩
      replace HX := Lib.hid (HX.out.below b8)
      replace HY := Lib.hid (HY.out.below b8)
      replace BB := Lib.hid (below3 BB.out b8)
      clear b8
      go_wp2_with fail
      refine (psame_any A B n c n' c' l o _ HX.out HY.out).mono ?_
      rw [HB5.out]
      rintro e w9 ⟨rfl, b9⟩
      replace HX := Lib.hid (HX.out.below b9)
      replace HY := Lib.hid (HY.out.below b9)
      replace BB := Lib.hid (below3 BB.out b9)
      clear b9
      go_wp2_with fail
      refine (rsame_any A B n c n' c' l o _ HX.out HY.out).mono ?_
      rw [HB5.out]
      rintro e wa ⟨rfl, ba⟩
      replace BB := Lib.hid (below3 BB.out ba)
      clear ba HX HY
      go_wp2_with fail
      go_ret
      exact ⟨rfl, BB.out⟩

end Go.Proofs.Ytndbaoiabmldgaa

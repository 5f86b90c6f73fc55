/-
  The law HeapTells: whether any heap may be, its timers in order, the first one, those that are due, and whether two have the same: the walk.
-/
import Derived.Test.YtjamoafihmcmeaaLHi
namespace Go.Proofs.Ytjamoafihmcmeaa
open Go.RowKit

set_option maxRecDepth 100000 in
set_option maxHeartbeats 8000000 in
theorem ltells_any (A A' : Option Addr) (n c n' c' : Nat) (l o : List Tm) (now : Int) (w : World) (hx : Tms w A n c l) (hy : Tms w A' n' c' o) :
    Calls Try.prog 4 #[.slice A n c, .slice A' n' c', .int .i64 now] w (TrueAns w) := by
  have HX := Lib.hid hx
  have HY := Lib.hid hy
  have hnc := hx.2.1
  have hnc' := hy.2.1
  have hN := eql_tim
  have hG := guard_tim .eql
  have BB := Lib.hid (Below.refl w.heap.size w)
  obtain ⟨r, s, hsr⟩ : ∃ r s, sortedR l = (r, s) := ⟨_, _, rfl⟩
  obtain ⟨z, u1, u2, hlr⟩ : ∃ z u1 u2, leastR l = (z, (u1, u2)) := ⟨_, _, _, rfl⟩
  obtain ⟨ck, hck⟩ : ∃ z : Int, (if heapOk l then (0 : Int) else 1) = z := ⟨_, rfl⟩
  obtain ⟨sb, hsb⟩ : ∃ b, decide (l.Perm o) = b := ⟨_, rfl⟩
  have HSR := Lib.hid hsr
  have HLR := Lib.hid hlr
  have HSB := Lib.hid hsb
  have HPC := Lib.hid (fun A n c w h => hck ▸ pcheck_any A n c l w h)
  have HRC := Lib.hid (fun A n c w h => hck ▸ rcheck_any A n c l w h)
  clear hx hy hsr hlr hsb hck
  go_enter Try.func4, Try.ntmps4
  go_wp2_with fail
  refine (live_any _).mono ?_
  rintro e w1 ⟨rfl, b1⟩
  replace HX := Lib.hid (HX.out.below b1)
  replace HY := Lib.hid (HY.out.below b1)
  replace BB := Lib.hid (below3 BB.out b1)
  clear b1
  by_cases h300 : 300 < n
  · go_wp2_with fail
    go_ret
    exact ⟨rfl, BB.out⟩
  by_cases h301 : 300 < n'
  · go_wp2_with fail
    go_ret
    exact ⟨rfl, BB.out⟩
  · have h300' : n ≤ 300 := by omega
    have h301' : n' ≤ 300 := by omega
    go_wp2_with fail
    refine (psorted_any A n c l _ HX.out).mono ?_
    rw [HSR.out]
    rintro e w2 ⟨A2, c2, rfl, o2, b2⟩
    replace HX := Lib.hid (HX.out.below b2)
    replace HY := Lib.hid (HY.out.below b2)
    replace BB := Lib.hid (below3 BB.out b2)
    have OA := Lib.hid o2.tms
    clear o2 b2
    go_wp2_with fail
    refine (sorted_any A n c l _ HX.out (by omega)).mono ?_
    rw [HSR.out]
    rintro e w3 ⟨A3, c3, rfl, o3, b3⟩
    replace HX := Lib.hid (HX.out.below b3)
    replace HY := Lib.hid (HY.out.below b3)
    replace OA := Lib.hid (OA.out.below b3)
    replace BB := Lib.hid (below3 BB.out b3)
    have OB := Lib.hid o3.tms
    clear o3 b3
    go_wp2_with fail
    refine (pleast_any A n c l _ HX.out).mono ?_
    rw [HLR.out]
    rintro e w4 ⟨rfl, b4⟩
    replace HX := Lib.hid (HX.out.below b4)
    replace HY := Lib.hid (HY.out.below b4)
    replace OA := Lib.hid (OA.out.below b4)
    replace OB := Lib.hid (OB.out.below b4)
    replace BB := Lib.hid (below3 BB.out b4)
    clear b4
    have k1 := Bk.new w4 24 #[.int .i64 u1, .int .i64 u2]
    have b1 := (Below.refl w4.heap.size w4).alloc (Nat.le_refl _) (.cells #[.int .i64 u1, .int .i64 u2] 24)
    obtain ⟨g4, hg4⟩ : ∃ g, w4.heap.size = g := ⟨_, rfl⟩
    obtain ⟨V4, hV4⟩ : ∃ V, w4.alloc (.cells #[.int .i64 u1, .int .i64 u2] 24) = V := ⟨_, rfl⟩
    rw [hV4] at k1 b1
    replace HX := Lib.hid (HX.out.below b1)
    replace HY := Lib.hid (HY.out.below b1)
    replace OA := Lib.hid (OA.out.below b1)
    replace OB := Lib.hid (OB.out.below b1)
    replace BB := Lib.hid (below3 BB.out b1)
    rw [hg4] at k1
    have KT := Lib.hid k1
    have HV := Lib.hid hV4
    have HG := Lib.hid hg4
    clear hV4 hg4 k1 b1
    go_upto_region 9 with fail
    rw [HV.out]
    try rw [HG.out]
    clear HV HG
    go_wp2_with fail
    refine (least_any A n c l _ HX.out (by omega)).mono ?_
    rw [HLR.out]
    rintro e w5 ⟨rfl, b5⟩
    replace HX := Lib.hid (HX.out.below b5)
    replace HY := Lib.hid (HY.out.below b5)
    replace OA := Lib.hid (OA.out.below b5)
    replace OB := Lib.hid (OB.out.below b5)
    replace KT := Lib.hid (KT.out.below b5 KT.out.lt)
    replace BB := Lib.hid (below3 BB.out b5)
    clear b5
    have k1 := Bk.new w5 24 #[.int .i64 u1, .int .i64 u2]
    have b1 := (Below.refl w5.heap.size w5).alloc (Nat.le_refl _) (.cells #[.int .i64 u1, .int .i64 u2] 24)
    obtain ⟨g5, hg5⟩ : ∃ g, w5.heap.size = g := ⟨_, rfl⟩
    obtain ⟨V5, hV5⟩ : ∃ V, w5.alloc (.cells #[.int .i64 u1, .int .i64 u2] 24) = V := ⟨_, rfl⟩
    rw [hV5] at k1 b1
    replace HX := Lib.hid (HX.out.below b1)
    replace HY := Lib.hid (HY.out.below b1)
    replace OA := Lib.hid (OA.out.below b1)
    replace OB := Lib.hid (OB.out.below b1)
    replace KT := Lib.hid (KT.out.below b1 KT.out.lt)
    replace BB := Lib.hid (below3 BB.out b1)
    rw [hg5] at k1
    have KU := Lib.hid k1
    have HV := Lib.hid hV5
    have HG := Lib.hid hg5
    clear hV5 hg5 k1 b1
    go_upto_region 10 with fail
    rw [HV.out]
    try rw [HG.out]
    clear HV HG
    go_wp2_with fail
    refine (pexpire_any A n c l now _ HX.out).mono ?_
    rintro e w6 ⟨A6, c6, xs, B6, d6, a6, z6, rfl, s6, i6, o6, b6⟩
    replace HX := Lib.hid (HX.out.below b6)
    replace HY := Lib.hid (HY.out.below b6)
    replace OA := Lib.hid (OA.out.below b6)
    replace OB := Lib.hid (OB.out.below b6)
    replace KT := Lib.hid (KT.out.below b6 KT.out.lt)
    replace KU := Lib.hid (KU.out.below b6 KU.out.lt)
    replace BB := Lib.hid (below3 BB.out b6)
    have OX := Lib.hid i6.ints
    have OC := Lib.hid o6.tms
    obtain ⟨r6, ys, y6, hr6⟩ : ∃ r ys y, expireR l now = (r, ys, y) := ⟨_, _, _, rfl⟩
    obtain ⟨hxy, hz6, hf6⟩ := expire_fit s6 hr6
    subst hz6
    subst hxy
    have FT := Lib.hid hf6
    have HRR := Lib.hid hr6
    clear i6 o6 b6 s6 hr6 hf6
    go_wp2_with fail
    refine (expire_any A n c l now _ HX.out (by omega)).mono ?_
    rw [HRR.out]
    rintro e w7 ⟨A7, c7, B7, d7, rfl, i7, o7, b7⟩
    replace HX := Lib.hid (HX.out.below b7)
    replace HY := Lib.hid (HY.out.below b7)
    replace OA := Lib.hid (OA.out.below b7)
    replace OB := Lib.hid (OB.out.below b7)
    replace OX := Lib.hid (OX.out.below b7)
    replace OC := Lib.hid (OC.out.below b7)
    replace KT := Lib.hid (KT.out.below b7 KT.out.lt)
    replace KU := Lib.hid (KU.out.below b7 KU.out.lt)
    replace BB := Lib.hid (below3 BB.out b7)
    have OY := Lib.hid i7.ints
    have OD := Lib.hid o7.tms
    clear i7 o7 b7 HRR
    go_wp2_with fail
    refine (samelist_any A2 A3 s.length c2 s.length c3 s s _ OA.out OB.out).mono ?_
    rw [sameT_refl]
    rintro e w8 ⟨rfl, q8, rfl⟩
    have b8 := below_drewN (Below.refl w7.heap.size w7) q8
    generalize w7.drewN q8 = w8 at b8 ⊢
    replace HX := Lib.hid (HX.out.below b8)
    replace HY := Lib.hid (HY.out.below b8)
    replace OA := Lib.hid (OA.out.below b8)
    replace OB := Lib.hid (OB.out.below b8)
    replace OX := Lib.hid (OX.out.below b8)
    replace OC := Lib.hid (OC.out.below b8)
    replace OY := Lib.hid (OY.out.below b8)
    replace OD := Lib.hid (OD.out.below b8)
    replace KT := Lib.hid (KT.out.below b8 KT.out.lt)
    replace KU := Lib.hid (KU.out.below b8 KU.out.lt)
    replace BB := Lib.hid (below3 BB.out b8)
    clear b8
    have q0 : _ = some (Value.int .i64 u1) := KT.out.cell 0
    have q1 : _ = some (Value.int .i64 u2) := KT.out.cell 1
    have r0 : _ = some (Value.int .i64 u1) := KU.out.cell 0
    have r1 : _ = some (Value.int .i64 u2) := KU.out.cell 1
    have lq := KT.out.lt
    have lr := KU.out.lt
    go_wp2_with fail
    refine (rsame_any A6 A7 _ c6 _ c7 xs xs _ OX.out OY.out).mono ?_
    rw [sameB_refl]
    rintro e w9 ⟨rfl, q9, rfl⟩
    have b9 := below_drewN (Below.refl w8.heap.size w8) q9
    generalize w8.drewN q9 = w9 at b9 ⊢
    replace HX := Lib.hid (HX.out.below b9)
    replace HY := Lib.hid (HY.out.below b9)
    replace OA := Lib.hid (OA.out.below b9)
    replace OB := Lib.hid (OB.out.below b9)
    replace OX := Lib.hid (OX.out.below b9)
    replace OC := Lib.hid (OC.out.below b9)
    replace OY := Lib.hid (OY.out.below b9)
    replace OD := Lib.hid (OD.out.below b9)
    replace BB := Lib.hid (below3 BB.out b9)
    clear b9 q0 q1 r0 r1 lq lr
    go_wp2_with fail
    refine (fits8_yes B6 B7 d6 d7 a6 y6 z6 _ OC.out OD.out FT.out).mono ?_
    rintro e v1 ⟨rfl, b1⟩
    replace HX := Lib.hid (HX.out.below b1)
    replace HY := Lib.hid (HY.out.below b1)
    replace OA := Lib.hid (OA.out.below b1)
    replace OB := Lib.hid (OB.out.below b1)
    replace OX := Lib.hid (OX.out.below b1)
    replace OC := Lib.hid (OC.out.below b1)
    replace OY := Lib.hid (OY.out.below b1)
    replace OD := Lib.hid (OD.out.below b1)
    replace BB := Lib.hid (below3 BB.out b1)
    clear b1
    go_wp2_with fail
    refine (HPC.out A n c _ HX.out).mono ?_
    rintro e v2 ⟨rfl, b2⟩
    replace HX := Lib.hid (HX.out.below b2)
    replace HY := Lib.hid (HY.out.below b2)
    replace OA := Lib.hid (OA.out.below b2)
    replace OB := Lib.hid (OB.out.below b2)
    replace OX := Lib.hid (OX.out.below b2)
    replace OC := Lib.hid (OC.out.below b2)
    replace OY := Lib.hid (OY.out.below b2)
    replace OD := Lib.hid (OD.out.below b2)
    replace BB := Lib.hid (below3 BB.out b2)
    clear b2
    go_wp2_with fail
    refine (HRC.out A n c _ HX.out).mono ?_
    rintro e v3 ⟨rfl, b3⟩
    replace HX := Lib.hid (HX.out.below b3)
    replace HY := Lib.hid (HY.out.below b3)
    replace OA := Lib.hid (OA.out.below b3)
    replace OB := Lib.hid (OB.out.below b3)
    replace OX := Lib.hid (OX.out.below b3)
    replace OC := Lib.hid (OC.out.below b3)
    replace OY := Lib.hid (OY.out.below b3)
    replace OD := Lib.hid (OD.out.below b3)
    replace BB := Lib.hid (below3 BB.out b3)
    clear b3
    go_wp2_with fail
    refine (psame_any A A' n c n' c' l o _ HX.out HY.out (by omega) (by omega)).mono ?_
    rw [HSB.out]
    rintro e v4 ⟨rfl, b4⟩
    replace HX := Lib.hid (HX.out.below b4)
    replace HY := Lib.hid (HY.out.below b4)
    replace OA := Lib.hid (OA.out.below b4)
    replace OB := Lib.hid (OB.out.below b4)
    replace OX := Lib.hid (OX.out.below b4)
    replace OC := Lib.hid (OC.out.below b4)
    replace OY := Lib.hid (OY.out.below b4)
    replace OD := Lib.hid (OD.out.below b4)
    replace BB := Lib.hid (below3 BB.out b4)
    clear b4
    go_wp2_with fail
    refine (same8_any A A' n c n' c' l o _ HX.out HY.out (by omega) (by omega)).mono ?_
    rw [sameO, HSB.out]
    rintro e v5 ⟨rfl, b5⟩
    replace HX := Lib.hid (HX.out.below b5)
    replace HY := Lib.hid (HY.out.below b5)
    replace OA := Lib.hid (OA.out.below b5)
    replace OB := Lib.hid (OB.out.below b5)
    replace OX := Lib.hid (OX.out.below b5)
    replace OC := Lib.hid (OC.out.below b5)
    replace OY := Lib.hid (OY.out.below b5)
    replace OD := Lib.hid (OD.out.below b5)
    replace BB := Lib.hid (below3 BB.out b5)
    clear b5
    go_wp2_with fail
    go_ret
    exact ⟨by simp, BB.out⟩

end Go.Proofs.Ytjamoafihmcmeaa

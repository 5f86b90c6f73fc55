/-
  Layer 16: Steal, the program.
-/
import Derived.Test.YtljfinfjchkphaaPkb
namespace Go.Proofs.Ytljfinfjchkphaa
open Go.RowKit

/-- What Steal and Lucky hand back. -/
def StealP (a : Int × List Int × Int × Int) (w : World) (e : Ending) (w' : World) : Prop := TripD (.int .i64 a.1) a.2.1 a.2.2.1 a.2.2.2 w e w'

set_option maxHeartbeats 4000000 in
theorem steal_any (A B : Option Addr) (N c n d : Nat) (p me : Int) (bs hs : List Int) (w : World) (ho : Octs w A N bs) (hx : Ints w B n hs) :
    Calls Try.prog 11 #[.agg #[.slice A N c, .int .i64 p], .slice B n d, .int .i64 me] w (StealP (stealPk bs N hs n p me) w) := by
  cases hn : negPk hs with
  | true =>
    rw [show stealPk bs N hs n p me = (0, [], 0, 1) from stealPk_1 (by rw [hn]; simp)]
    have HN := Lib.hid hn
    clear hn
    obtain ⟨k3, k4, k7, b0⟩ := lies3_pk w #[.slice A N c, .int .i64 p] #[.slice B n d] #[.slice none 0 0, .int .i64 0] 24 25 24
    have HO := Lib.hid (ho.below b0)
    have HX := Lib.hid (hx.below b0)
    have LX := Lib.hid hx.1
    have r0 := k3.c0
    have r1 := k3.c1
    have r4 := k4.one
    have K3 := Lib.hid k3
    have K4 := Lib.hid k4
    have K7 := Lib.hid k7
    have HZ := Lib.hid k7.lt
    have B0S := Lib.hid b0.size
    have BB := Lib.hid b0
    clear k3 k4 k7 b0 ho hx
    go_enter Try.func11, Try.ntmps11
    go_wp2_with fail
    refine (anyneg_pk B n d hs _ HX.out).mono ?_
    rw [HN.out]
    rintro e w1 ⟨rfl, b1⟩
    replace K7 := Lib.hid (K7.out.below b1 K7.out.lt)
    replace BB := Lib.hid (below3 BB.out b1)
    clear b1
    clear r0 r1 r4 HX HO K3 K4
    have q0 := K7.out.c0
    have q1 := K7.out.c1
    have f0 := K7.out.frozen 0
    have f1 := K7.out.frozen 1
    have HB := Lib.hid ((BB.out.setCell (p := ⟨w.heap.size + 1 + 1, 0, none⟩) (by simp <;> omega) (.slice none 0 0)).setCell (p := ⟨w.heap.size + 1 + 1, 1, none⟩) (by simp <;> omega) (.int .i64 0))
    go_wp2
    exact bodyPost_ret (v := .tuple #[.int .i64 0, .agg #[.slice none 0 0, .int .i64 0], .int .i64 1]) (by simp [results, Try.results11, go_sem, *]) rfl (trip_none HB.out)
  | false =>
    by_cases hok : okVPk N p n me
    · obtain ⟨⟨x, rs, q, er⟩, hS⟩ : ∃ a, stealPk bs N hs n p me = a := ⟨_, rfl⟩
      rw [hS]
      have HS := Lib.hid hS
      have HN := Lib.hid hn
      have HOK := Lib.hid hok
      have hv := vicPk_ok (bs := bs) hok
      rw [Int.toNat_natCast] at hv
      obtain ⟨vs, hvs⟩ : ∃ l, butPk (orderOf bs p.toNat n) me = l := ⟨_, rfl⟩
      obtain ⟨m, hm⟩ : ∃ m : Int, ((min (p.toNat + 2 * (n - 1)) N : Nat) : Int) = m := ⟨_, rfl⟩
      rw [hvs, hm] at hv
      have HV := Lib.hid hv
      have HVS := Lib.hid hvs
      have HM := Lib.hid hm
      have HI : Hid (∀ z, z ∈ vs → 0 ≤ z ∧ z < n) := Lib.hid (fun z hz => by rw [← hvs] at hz; exact order_mem (but_memPk.1 hz).1)
      obtain ⟨nv, hnv⟩ : ∃ k, vs.length = k := ⟨_, rfl⟩
      have HNV := Lib.hid hnv
      clear hS hn hok hv hvs hm hnv
      obtain ⟨k3, k4, k7, b0⟩ := lies3_pk w #[.slice A N c, .int .i64 p] #[.slice B n d] #[.slice none 0 0, .int .i64 0] 24 25 24
      have HO := Lib.hid (ho.below b0)
      have HX := Lib.hid (hx.below b0)
      have LX := Lib.hid hx.1
      have r0 := k3.c0
      have r1 := k3.c1
      have r4 := k4.one
      have K3 := Lib.hid k3
      have K4 := Lib.hid k4
      have K7 := Lib.hid k7
      have HZ := Lib.hid k7.lt
      have B0S := Lib.hid b0.size
      have BB := Lib.hid b0
      clear k3 k4 k7 b0 ho hx
      go_enter Try.func11, Try.ntmps11
      go_wp2_with fail
      refine (anyneg_pk B n d hs _ HX.out).mono ?_
      rw [HN.out]
      rintro e w1 ⟨rfl, b1⟩
      clear r0 r1 r4
      replace K3 := Lib.hid (K3.out.below b1 K3.out.lt)
      replace K4 := Lib.hid (K4.out.below b1 K4.out.lt)
      replace K7 := Lib.hid (K7.out.below b1 K7.out.lt)
      replace HO := Lib.hid (HO.out.below b1)
      replace HX := Lib.hid (HX.out.below b1)
      replace BB := Lib.hid (below3 BB.out b1)
      clear b1
      have r0 := K3.out.c0
      have r1 := K3.out.c1
      have r4 := K4.out.one
      go_wp2_with fail
      refine (vic_any A N c p n me bs _ HO.out).mono ?_
      rw [HV.out]
      rintro e w2 ⟨A2, c2, B2, d2, he, o2, d2o, b2⟩
      dsimp only at he
      rw [HNV.out] at he
      subst he
      have OV := Lib.hid (o2.intsN HNV.out)
      have DO := Lib.hid (d2o.base (show w.heap.size + 1 + 1 + 1 ≤ _ from K7.out.lt))
      clear r0 r1 r4 o2 d2o
      replace K3 := Lib.hid (K3.out.below b2 K3.out.lt)
      replace K4 := Lib.hid (K4.out.below b2 K4.out.lt)
      replace K7 := Lib.hid (K7.out.below b2 K7.out.lt)
      replace HO := Lib.hid (HO.out.below b2)
      replace HX := Lib.hid (HX.out.below b2)
      replace BB := Lib.hid (below3 BB.out b2)
      clear b2
      have kt := Bk.new w2 24 #[.slice A2 bs.length c2, .int .i64 m]
      have ba := (Below.refl w2.heap.size w2).alloc (Nat.le_refl _) (.cells #[.slice A2 bs.length c2, .int .i64 m] 24)
      replace K3 := Lib.hid (K3.out.below ba K3.out.lt)
      replace K4 := Lib.hid (K4.out.below ba K4.out.lt)
      replace K7 := Lib.hid (K7.out.below ba K7.out.lt)
      replace HO := Lib.hid (HO.out.below ba)
      replace HX := Lib.hid (HX.out.below ba)
      replace OV := Lib.hid (OV.out.below ba)
      replace DO := Lib.hid (DO.out.below ba)
      replace BB := Lib.hid (below3 BB.out ba)
      clear ba
      have KT := Lib.hid kt
      clear kt
      obtain ⟨W, hW⟩ : ∃ W, w2.alloc (.cells #[.slice A2 bs.length c2, .int .i64 m] 24) = W := ⟨_, rfl⟩
      rw [hW] at KT BB K3 K4 K7 HO HX OV DO
      obtain ⟨gt, hg⟩ : ∃ g, w2.heap.size = g := ⟨_, rfl⟩
      rw [hg] at KT
      have HW := Lib.hid hW
      have HG := Lib.hid hg
      clear hW hg
      go_upto_region 6 with fail
      rw [HW.out]
      try rw [HG.out]
      clear HW HG
      have r4 := K4.out.one
      have r7 := K4.out.lt
      go_wp2_with fail
      refine (idxhas_pk (.pointer (some ⟨w.heap.size + 1, 0, none⟩)) (hasPk hs) B2 nv d2 vs _ OV.out (fun z U hz hb => ishas_pk z B n d hs _ U ((hb.cell (p := ⟨w.heap.size + 1, 0, none⟩) K4.out.lt).trans K4.out.one) (Nat.lt_of_lt_of_le K4.out.lt hb.size) (HX.out.below hb) (HI.out z hz).1 (HI.out z hz).2)).mono ?_
      rintro e w3 ⟨r, rfl, hat, b3⟩
      clear r4 r7
      replace K3 := Lib.hid (K3.out.below b3 K3.out.lt)
      replace K4 := Lib.hid (K4.out.below b3 K4.out.lt)
      replace K7 := Lib.hid (K7.out.below b3 K7.out.lt)
      replace KT := Lib.hid (KT.out.below b3 KT.out.lt)
      replace HO := Lib.hid (HO.out.below b3)
      replace HX := Lib.hid (HX.out.below b3)
      replace OV := Lib.hid (OV.out.below b3)
      replace DO := Lib.hid (DO.out.below b3)
      replace BB := Lib.hid (below3 BB.out b3)
      clear b3
      rcases hat with ⟨rfl, hno⟩ | ⟨k, rfl, hk, hg, hbf⟩
      · have hS := HS.out.symm.trans (stealPk_5 (bs := bs) HOK.out HN.out (by rw [HVS.out]; exact hno))
        cases hS
        clear hno HI
        have q0 := K7.out.c0
        have q1 := K7.out.c1
        have f0 := K7.out.frozen 0
        have f1 := K7.out.frozen 1
        have HB := Lib.hid ((BB.out.setCell (p := ⟨w.heap.size + 1 + 1, 0, none⟩) (by simp <;> omega) (.slice none 0 0)).setCell (p := ⟨w.heap.size + 1 + 1, 1, none⟩) (by simp <;> omega) (.int .i64 0))
        go_wp2
        exact bodyPost_ret (v := .tuple #[.int .i64 0, .agg #[.slice none 0 0, .int .i64 0], .int .i64 5]) (by simp [results, Try.results11, go_sem, *]) rfl (trip_none HB.out)
      · have hS := HS.out.symm.trans (stealPk_0 (bs := bs) HOK.out HN.out (k := k) (by rw [HVS.out]; exact hk) (by rw [HVS.out]; exact hg) (by rw [HVS.out]; exact hbf))
        rw [HVS.out, HM.out] at hS
        have hkn : k < nv := by rw [← HNV.out]; exact hk
        obtain ⟨b, o, rfl, hb, c0⟩ := OV.out.at_pk hkn
        obtain ⟨z, hz⟩ : ∃ z, nth vs k = z := ⟨_, rfl⟩
        rw [hz] at hS c0
        cases hS
        clear hz hk hg hbf HI HX HO
        have q0 := K7.out.c0
        have q1 := K7.out.c1
        have f0 := K7.out.frozen 0
        have f1 := K7.out.frozen 1
        have t0 := KT.out.c0
        have t1 := KT.out.c1
        have hlt := KT.out.lt
        have S7 := Lib.hid (show Bk ((w3.setCell ⟨w.heap.size + 1 + 1, 0, none⟩ (.slice A2 bs.length c2)).setCell ⟨w.heap.size + 1 + 1, 1, none⟩ (.int .i64 q)) (w.heap.size + 1 + 1) 24 #[.slice A2 bs.length c2, .int .i64 q] from (K7.out.set_ 0 _).set_ 1 _)
        have HB := Lib.hid ((BB.out.setCell (p := ⟨w.heap.size + 1 + 1, 0, none⟩) (by simp <;> omega) (.slice A2 bs.length c2)).setCell (p := ⟨w.heap.size + 1 + 1, 1, none⟩) (by simp <;> omega) (.int .i64 q))
        have HD := Lib.hid ((DO.out.far (p := ⟨w.heap.size + 1 + 1, 0, none⟩) (by simp) (.slice A2 bs.length c2)).far (p := ⟨w.heap.size + 1 + 1, 1, none⟩) (by simp) (.int .i64 q))
        go_upto_region 9 with fail
        go_region
        go_wp2
        have s0 := S7.out.drew.c0
        have s1 := S7.out.drew.c1
        exact bodyPost_ret (v := .tuple #[.int .i64 x, .agg #[.slice A2 bs.length c2, .int .i64 q], .int .i64 0]) (by simp [results, Try.results11, go_sem, s0, s1]) rfl ⟨A2, c2, rfl, HD.out.drew.base (show w.heap.size ≤ w.heap.size + 1 + 1 + 1 by omega), HB.out.drew⟩
    · rw [show stealPk bs N hs n p me = (0, [], 0, 1) from stealPk_1 (fun q => hok q.1)]
      have HN := Lib.hid hn
      have HV := Lib.hid (vicPk_no (bs := bs) hok)
      clear hn hok
      obtain ⟨k3, k4, k7, b0⟩ := lies3_pk w #[.slice A N c, .int .i64 p] #[.slice B n d] #[.slice none 0 0, .int .i64 0] 24 25 24
      have HO := Lib.hid (ho.below b0)
      have HX := Lib.hid (hx.below b0)
      have LX := Lib.hid hx.1
      have r0 := k3.c0
      have r1 := k3.c1
      have r4 := k4.one
      have K3 := Lib.hid k3
      have K4 := Lib.hid k4
      have K7 := Lib.hid k7
      have HZ := Lib.hid k7.lt
      have B0S := Lib.hid b0.size
      have BB := Lib.hid b0
      clear k3 k4 k7 b0 ho hx
      go_enter Try.func11, Try.ntmps11
      go_wp2_with fail
      refine (anyneg_pk B n d hs _ HX.out).mono ?_
      rw [HN.out]
      rintro e w1 ⟨rfl, b1⟩
      clear r0 r1 r4
      replace K3 := Lib.hid (K3.out.below b1 K3.out.lt)
      replace K4 := Lib.hid (K4.out.below b1 K4.out.lt)
      replace K7 := Lib.hid (K7.out.below b1 K7.out.lt)
      replace HO := Lib.hid (HO.out.below b1)
      replace HX := Lib.hid (HX.out.below b1)
      replace BB := Lib.hid (below3 BB.out b1)
      clear b1
      have r0 := K3.out.c0
      have r1 := K3.out.c1
      have r4 := K4.out.one
      go_wp2_with fail
      refine (vic_any A N c p n me bs _ HO.out).mono ?_
      rw [HV.out]
      rintro e w2 ⟨A2, c2, B2, d2, rfl, -, -, b2⟩
      clear r0 r1 r4
      replace K7 := Lib.hid (K7.out.below b2 K7.out.lt)
      replace BB := Lib.hid (below3 BB.out b2)
      clear b2
      have kt := Bk.new w2 24 #[.slice A2 0 c2, .int .i64 0]
      have ba := (Below.refl w2.heap.size w2).alloc (Nat.le_refl _) (.cells #[.slice A2 0 c2, .int .i64 0] 24)
      replace K7 := Lib.hid (K7.out.below ba K7.out.lt)
      replace BB := Lib.hid (below3 BB.out ba)
      clear ba
      have KT := Lib.hid kt
      clear kt
      obtain ⟨W, hW⟩ : ∃ W, w2.alloc (.cells #[.slice A2 0 c2, .int .i64 0] 24) = W := ⟨_, rfl⟩
      rw [hW] at KT BB K7
      obtain ⟨gt, hg⟩ : ∃ g, w2.heap.size = g := ⟨_, rfl⟩
      rw [hg] at KT
      have HW := Lib.hid hW
      have HG := Lib.hid hg
      clear hW hg
      go_upto_region 4 with fail
      rw [HW.out]
      try rw [HG.out]
      clear HW HG
      have q0 := K7.out.c0
      have q1 := K7.out.c1
      have f0 := K7.out.frozen 0
      have f1 := K7.out.frozen 1
      have HB := Lib.hid ((BB.out.setCell (p := ⟨w.heap.size + 1 + 1, 0, none⟩) (by simp <;> omega) (.slice none 0 0)).setCell (p := ⟨w.heap.size + 1 + 1, 1, none⟩) (by simp <;> omega) (.int .i64 0))
      go_wp2
      exact bodyPost_ret (v := .tuple #[.int .i64 0, .agg #[.slice none 0 0, .int .i64 0], .int .i64 1]) (by simp [results, Try.results11, go_sem, *]) rfl (trip_none HB.out)

end Go.Proofs.Ytljfinfjchkphaa

/-
  Layer 16: the document's Victims and Steal.
-/
import Derived.Test.YtljfinfjchkphaaPkc
namespace Go.Proofs.Ytljfinfjchkphaa
open Go.RowKit

theorem OwnI.drew_pk {E : TypeId} {w : World} {base : Nat} {A : Option Addr} {c : Nat} {zs : List Int} (h : OwnI E w base A c zs) : OwnI E w.drew base A c zs := h

set_option maxHeartbeats 4000000 in
theorem rvic_any (A : Option Addr) (N c : Nat) (p n me : Int) (bs : List Int) (w : World) (ho : Octs w A N bs) (hN : N ≤ 1000) :
    Calls Try.prog 10 #[.agg #[.slice A N c, .int .i64 p], .int .i64 n, .int .i64 me] w (VicP (vicPk bs N p n me) w) := by
  have hN47 := ho.2.1
  by_cases hp : 0 ≤ p ∧ p ≤ N
  · by_cases g0 : n < 1
    · rw [show vicPk bs N p n me = ([], [], 0, 1) from vicPk_no (by unfold okVPk; omega)]
      replace g0 : decide (n < 1) = true := decide_eq_true g0
      obtain ⟨k3, k7, b0⟩ := lies2 w #[.slice A N c, .int .i64 p] #[.slice none 0 0, .int .i64 0] 24 24
      have HO := Lib.hid (ho.below b0)
      have r0 := k3.c0
      have r1 := k3.c1
      have K3 := Lib.hid k3
      have K7 := Lib.hid k7
      have HZ := Lib.hid k7.lt
      have BB := Lib.hid b0
      clear k3 k7 b0 ho
      go_enter Try.func10, Try.ntmps10
      go_wp2_with fail
      refine (rcheck_ok A N c p _ hp.1 hp.2).mono ?_
      rintro e w1 ⟨rfl, b1⟩
      clear r0 r1 HO K3
      replace K7 := Lib.hid (K7.out.below b1 K7.out.lt)
      replace BB := Lib.hid (below3 BB.out b1)
      clear b1
      have q0 := K7.out.c0
      have q1 := K7.out.c1
      have f0 := K7.out.frozen 0
      have f1 := K7.out.frozen 1
      have HB := Lib.hid ((BB.out.setCell (p := ⟨w.heap.size + 1, 0, none⟩) (by simp <;> omega) (.slice none 0 0)).setCell (p := ⟨w.heap.size + 1, 1, none⟩) (by simp <;> omega) (.int .i64 0))
      go_wp2
      exact bodyPost_ret (v := .tuple #[.slice none 0 0, .agg #[.slice none 0 0, .int .i64 0], .int .i64 1]) (by simp [results, Try.results10, go_sem, *]) rfl (vic_none HB.out)
    · by_cases g1 : 64 < n
      · rw [show vicPk bs N p n me = ([], [], 0, 1) from vicPk_no (by unfold okVPk; omega)]
        replace g0 : decide (n < 1) = false := decide_eq_false g0
        replace g1 : decide (64 < n) = true := decide_eq_true g1
        obtain ⟨k3, k7, b0⟩ := lies2 w #[.slice A N c, .int .i64 p] #[.slice none 0 0, .int .i64 0] 24 24
        have HO := Lib.hid (ho.below b0)
        have r0 := k3.c0
        have r1 := k3.c1
        have K3 := Lib.hid k3
        have K7 := Lib.hid k7
        have HZ := Lib.hid k7.lt
        have BB := Lib.hid b0
        clear k3 k7 b0 ho
        go_enter Try.func10, Try.ntmps10
        go_wp2_with fail
        refine (rcheck_ok A N c p _ hp.1 hp.2).mono ?_
        rintro e w1 ⟨rfl, b1⟩
        clear r0 r1 HO K3
        replace K7 := Lib.hid (K7.out.below b1 K7.out.lt)
        replace BB := Lib.hid (below3 BB.out b1)
        clear b1
        have q0 := K7.out.c0
        have q1 := K7.out.c1
        have f0 := K7.out.frozen 0
        have f1 := K7.out.frozen 1
        have HB := Lib.hid ((BB.out.setCell (p := ⟨w.heap.size + 1, 0, none⟩) (by simp <;> omega) (.slice none 0 0)).setCell (p := ⟨w.heap.size + 1, 1, none⟩) (by simp <;> omega) (.int .i64 0))
        go_wp2
        exact bodyPost_ret (v := .tuple #[.slice none 0 0, .agg #[.slice none 0 0, .int .i64 0], .int .i64 1]) (by simp [results, Try.results10, go_sem, *]) rfl (vic_none HB.out)
      · by_cases g2 : me < 0
        · rw [show vicPk bs N p n me = ([], [], 0, 1) from vicPk_no (by unfold okVPk; omega)]
          replace g0 : decide (n < 1) = false := decide_eq_false g0
          replace g1 : decide (64 < n) = false := decide_eq_false g1
          replace g2 : decide (me < 0) = true := decide_eq_true g2
          obtain ⟨k3, k7, b0⟩ := lies2 w #[.slice A N c, .int .i64 p] #[.slice none 0 0, .int .i64 0] 24 24
          have HO := Lib.hid (ho.below b0)
          have r0 := k3.c0
          have r1 := k3.c1
          have K3 := Lib.hid k3
          have K7 := Lib.hid k7
          have HZ := Lib.hid k7.lt
          have BB := Lib.hid b0
          clear k3 k7 b0 ho
          go_enter Try.func10, Try.ntmps10
          go_wp2_with fail
          refine (rcheck_ok A N c p _ hp.1 hp.2).mono ?_
          rintro e w1 ⟨rfl, b1⟩
          clear r0 r1 HO K3
          replace K7 := Lib.hid (K7.out.below b1 K7.out.lt)
          replace BB := Lib.hid (below3 BB.out b1)
          clear b1
          have q0 := K7.out.c0
          have q1 := K7.out.c1
          have f0 := K7.out.frozen 0
          have f1 := K7.out.frozen 1
          have HB := Lib.hid ((BB.out.setCell (p := ⟨w.heap.size + 1, 0, none⟩) (by simp <;> omega) (.slice none 0 0)).setCell (p := ⟨w.heap.size + 1, 1, none⟩) (by simp <;> omega) (.int .i64 0))
          go_wp2
          exact bodyPost_ret (v := .tuple #[.slice none 0 0, .agg #[.slice none 0 0, .int .i64 0], .int .i64 1]) (by simp [results, Try.results10, go_sem, *]) rfl (vic_none HB.out)
        · by_cases g3 : n ≤ me
          · rw [show vicPk bs N p n me = ([], [], 0, 1) from vicPk_no (by unfold okVPk; omega)]
            replace g0 : decide (n < 1) = false := decide_eq_false g0
            replace g1 : decide (64 < n) = false := decide_eq_false g1
            replace g2 : decide (me < 0) = false := decide_eq_false g2
            replace g3 : decide (n ≤ me) = true := decide_eq_true g3
            obtain ⟨k3, k7, b0⟩ := lies2 w #[.slice A N c, .int .i64 p] #[.slice none 0 0, .int .i64 0] 24 24
            have HO := Lib.hid (ho.below b0)
            have r0 := k3.c0
            have r1 := k3.c1
            have K3 := Lib.hid k3
            have K7 := Lib.hid k7
            have HZ := Lib.hid k7.lt
            have BB := Lib.hid b0
            clear k3 k7 b0 ho
            go_enter Try.func10, Try.ntmps10
            go_wp2_with fail
            refine (rcheck_ok A N c p _ hp.1 hp.2).mono ?_
            rintro e w1 ⟨rfl, b1⟩
            clear r0 r1 HO K3
            replace K7 := Lib.hid (K7.out.below b1 K7.out.lt)
            replace BB := Lib.hid (below3 BB.out b1)
            clear b1
            have q0 := K7.out.c0
            have q1 := K7.out.c1
            have f0 := K7.out.frozen 0
            have f1 := K7.out.frozen 1
            have HB := Lib.hid ((BB.out.setCell (p := ⟨w.heap.size + 1, 0, none⟩) (by simp <;> omega) (.slice none 0 0)).setCell (p := ⟨w.heap.size + 1, 1, none⟩) (by simp <;> omega) (.int .i64 0))
            go_wp2
            exact bodyPost_ret (v := .tuple #[.slice none 0 0, .agg #[.slice none 0 0, .int .i64 0], .int .i64 1]) (by simp [results, Try.results10, go_sem, *]) rfl (vic_none HB.out)
          · have hlo : (1 ≤ n ∧ n ≤ 64) ∧ 0 ≤ me ∧ me < n := by omega
            replace g0 : decide (n < 1) = false := decide_eq_false g0
            replace g1 : decide (64 < n) = false := decide_eq_false g1
            replace g2 : decide (me < 0) = false := decide_eq_false g2
            replace g3 : decide (n ≤ me) = false := decide_eq_false g3
            have hok : okVPk N p n me := ⟨hp, hlo⟩
            obtain ⟨p, rfl⟩ := Int.eq_ofNat_of_zero_le hp.1
            obtain ⟨n, rfl⟩ : ∃ k : Nat, n = (k : Int) := ⟨n.toNat, by omega⟩
            have hpN : p ≤ N := by omega
            have hn64 : n ≤ 64 := by omega
            have HR := Lib.hid (vicPk_ok (bs := bs) hok)
            rw [HR.out]
            simp only [Int.toNat_natCast]
            obtain ⟨l, hl⟩ : ∃ l, orderOf bs p n = l := ⟨_, rfl⟩
            have hln := order_len bs p n
            rw [hl] at hln ⊢
            have HL := Lib.hid hl
            obtain ⟨m, hm⟩ : ∃ m, min (p + 2 * (n - 1)) N = m := ⟨_, rfl⟩
            rw [hm]
            have HMM := Lib.hid hm
            have HLN := Lib.hid hln
            have HPP := Lib.hid hp
            clear HR hl hm hln hok hlo
            obtain ⟨k3, k7, b0⟩ := lies2 w #[.slice A N c, .int .i64 p] #[.slice none 0 0, .int .i64 0] 24 24
            have HO := Lib.hid (ho.below b0)
            have r0 := k3.c0
            have r1 := k3.c1
            have K3 := Lib.hid k3
            have K7 := Lib.hid k7
            have HZ := Lib.hid k7.lt
            have BB := Lib.hid b0
            clear k3 k7 b0 ho
            go_enter Try.func10, Try.ntmps10
            go_wp2_with fail
            refine (rcheck_ok A N c p _ hp.1 hp.2).mono ?_
            rintro e w1 ⟨rfl, b1⟩
            clear r0 r1 hp
            replace K3 := Lib.hid (K3.out.below b1 K3.out.lt)
            replace K7 := Lib.hid (K7.out.below b1 K7.out.lt)
            replace HO := Lib.hid (HO.out.below b1)
            replace BB := Lib.hid (below3 BB.out b1)
            clear b1
            have r0 := K3.out.c0
            have r1 := K3.out.c1
            go_wp2_with fail
            refine (rorder_ok A N c p n bs _ HO.out hN hpN (by omega)).mono ?_
            rw [HL.out, HMM.out]
            rintro e w2 ⟨A2, c2, B2, d2, he, o2, d2o, b2⟩
            rw [HLN.out] at he
            subst he
            have OV := Lib.hid (o2.intsN HLN.out)
            have DO := Lib.hid (d2o.base (show w.heap.size + 1 + 1 ≤ _ from K7.out.lt))
            clear r0 r1 o2 d2o
            replace K3 := Lib.hid (K3.out.below b2 K3.out.lt)
            replace K7 := Lib.hid (K7.out.below b2 K7.out.lt)
            replace HO := Lib.hid (HO.out.below b2)
            replace BB := Lib.hid (below3 BB.out b2)
            clear b2
            have kt := Bk.new w2 24 #[.slice A2 bs.length c2, .int .i64 (m : Int)]
            have ba := (Below.refl w2.heap.size w2).alloc (Nat.le_refl _) (.cells #[.slice A2 bs.length c2, .int .i64 (m : Int)] 24)
            replace K3 := Lib.hid (K3.out.below ba K3.out.lt)
            replace K7 := Lib.hid (K7.out.below ba K7.out.lt)
            replace HO := Lib.hid (HO.out.below ba)
            replace OV := Lib.hid (OV.out.below ba)
            replace DO := Lib.hid (DO.out.below ba)
            replace BB := Lib.hid (below3 BB.out ba)
            clear ba
            have KT := Lib.hid kt
            clear kt
            obtain ⟨W, hW⟩ : ∃ W, w2.alloc (.cells #[.slice A2 bs.length c2, .int .i64 (m : Int)] 24) = W := ⟨_, rfl⟩
            rw [hW] at KT BB K3 K7 HO OV DO
            obtain ⟨gt, hg⟩ : ∃ g, w2.heap.size = g := ⟨_, rfl⟩
            rw [hg] at KT
            have HW := Lib.hid hW
            have HG := Lib.hid hg
            clear hW hg
            go_upto_region 4 with fail
            rw [HW.out]
            try rw [HG.out]
            clear HW HG
            have K7W := Lib.hid K7.out.lt
            have BBS := Lib.hid BB.out.size
            go_wp2
            go_loopw [12, 45] (fun t12 t wr => ∃ (k mo : Nat) (Ao : Option Addr) (co : Nat), k ≤ n ∧ t = .int .i64 k ∧ t12 = .slice Ao mo co ∧ Hid (mo = (butPk (l.take k) me).length) ∧ Hid (OwnI 3 wr W.heap.size Ao co (butPk (l.take k) me)) ∧ Hid (Below W.heap.size W wr)) (fun _ t _ => n - (intOf t).toNat)
            case atStart => exact ⟨0, 0, none, 0, Nat.zero_le _, rfl, rfl, Lib.hid rfl, Lib.hid (OwnI.nil_ _ _ _), Lib.hid (Below.refl _ _)⟩
            case round =>
              rename World => wr
              obtain ⟨k, mo, Ao, co, hk, rfl, rfl, HM, OW, BW⟩ := hrel
              by_cases hkn : k < n
              · obtain ⟨bL, oL, rfl, hbL, c0⟩ := (OV.out.below BW.out).at_pk hkn
                have hkl : k < l.length := by rw [HLN.out]; exact hkn
                have HNX := Lib.hid (but_nextPk hkl me)
                have fz := OV.out.fit_pk hkn
                obtain ⟨z, hz⟩ : ∃ z, nth l k = z := ⟨_, rfl⟩
                rw [hz] at c0 HNX fz
                clear hz hkl
                by_cases he : z = me
                · have HE := Lib.hid HNX.out
                  rw [if_pos he] at HE
                  have t0 : (z != me) = false := by simpa using he
                  have t1 : (z == me) = true := by simpa using he
                  have HM1 := Lib.hid (HM.out.trans (congrArg List.length HE.out.symm))
                  have O1 : Hid (OwnI 3 wr W.heap.size Ao co (butPk (l.take (k + 1)) me)) := Lib.hid (by rw [HE.out]; exact OW.out)
                  clear HM OW HE HNX he fz
                  go_wp2
                  go_roundw
                  case rel => exact ⟨k + 1, mo, Ao, co, by omega, by go_num, rfl, HM1, O1, BW⟩
                  case measure => simp [intOf]; omega
                · have HE := Lib.hid HNX.out
                  rw [if_neg he] at HE
                  have t0 : (z != me) = true := by simpa using he
                  have t1 : (z == me) = false := by simpa using he
                  have hmk : mo ≤ k := by rw [HM.out]; exact Nat.le_trans (but_lenPk _ _) (by rw [List.length_take]; omega)
                  have kb := Bk.new wr 3 #[.int .i64 z]
                  have ba := (Below.refl wr.heap.size wr).alloc (Nat.le_refl _) (.cells #[.int .i64 z] 3)
                  have T1 := Lib.hid (ints1 wr 3 fz)
                  have O1 := Lib.hid (OW.out.below ba)
                  have B1 := Lib.hid (below3 BW.out ba)
                  have HS1 := Lib.hid B1.out.size
                  obtain ⟨p1, hp1⟩ : ∃ p1, butPk (l.take k) me = p1 := ⟨_, rfl⟩
                  rw [hp1] at O1 HM HE
                  clear hp1 OW BW kb ba HNX he fz
                  go_wp2_with (at_builtin; refine wpList_append_ints _ rfl _ _ 25 rfl 3 Try.underlying25 Try.intInfo W.heap.size Ao co p1 mo HM.out rfl O1.out (some ⟨wr.heap.size, 0, none⟩) 1 1 [z] rfl T1.out (by have := HM.out; omega) HS1.out ?_; intro A3 c3 w4 ho hgr; have O5 := Lib.hid ho; have B5 := Lib.hid (below_app B1.out O1.out hgr HS1.out); clear ho hgr T1 O1 B1)
                  have HN1 : Hid ((p1 ++ [z]).length = mo + 1) := Lib.hid (by have := HM.out; simp; omega)
                  go_roundw
                  case rel => exact ⟨k + 1, mo + 1, A3, c3, by omega, by go_num, by first | rfl | rw [HN1.out] | (simp; exact HM.out.symm), Lib.hid (by rw [HE.out, HN1.out]), Lib.hid (by rw [HE.out]; exact O5.out), B5⟩
                  case measure => simp [intOf]; omega
              · obtain rfl : n = k := by omega
                have hall : l.take n = l := List.take_of_length_le (by rw [HLN.out]; exact Nat.le_refl _)
                rw [hall] at HM OW
                clear hall
                replace K7 := Lib.hid (K7.out.below BW.out K7.out.lt)
                replace KT := Lib.hid (KT.out.below BW.out KT.out.lt)
                replace DO := Lib.hid (DO.out.below BW.out)
                replace BB := Lib.hid (below3 BB.out BW.out)
                have HZ2 : Hid (w.heap.size + 1 < W.heap.size) := Lib.hid K7W.out
                have HRW := Lib.hid ((OW.out.far (p := ⟨w.heap.size + 1, 0, none⟩) HZ2.out (.slice A2 bs.length c2)).far (p := ⟨w.heap.size + 1, 1, none⟩) HZ2.out (.int .i64 (m : Int)))
                have q0 := K7.out.c0
                have q1 := K7.out.c1
                have f0 := K7.out.frozen 0
                have f1 := K7.out.frozen 1
                have t0 := KT.out.c0
                have t1 := KT.out.c1
                have hlt := KT.out.lt
                have S7 := Lib.hid (show Bk ((wr.setCell ⟨w.heap.size + 1, 0, none⟩ (.slice A2 bs.length c2)).setCell ⟨w.heap.size + 1, 1, none⟩ (.int .i64 (m : Int))) (w.heap.size + 1) 24 #[.slice A2 bs.length c2, .int .i64 (m : Int)] from (K7.out.set_ 0 _).set_ 1 _)
                have HB := Lib.hid ((BB.out.setCell (p := ⟨w.heap.size + 1, 0, none⟩) (by simp <;> omega) (.slice A2 bs.length c2)).setCell (p := ⟨w.heap.size + 1, 1, none⟩) (by simp <;> omega) (.int .i64 (m : Int)))
                have HD := Lib.hid ((DO.out.far (p := ⟨w.heap.size + 1, 0, none⟩) (by simp) (.slice A2 bs.length c2)).far (p := ⟨w.heap.size + 1, 1, none⟩) (by simp) (.int .i64 (m : Int)))
                go_upto_region 11 with fail
                go_region
                go_wp2
                have s0 := S7.out.drew.c0
                have s1 := S7.out.drew.c1
                exact bodyPost_ret (v := .tuple #[.slice Ao mo co, .agg #[.slice A2 bs.length c2, .int .i64 (m : Int)], .int .i64 0]) (by simp [results, Try.results10, go_sem, s0, s1]) rfl ⟨A2, c2, Ao, co, by rw [HM.out], HRW.out.drew_pk.base (Nat.le_trans BBS.out (Nat.le_refl _)), HD.out.drew.base (show w.heap.size ≤ w.heap.size + 1 + 1 by omega), HB.out.drew⟩
  · rw [show vicPk bs N p n me = ([], [], 0, 1) from vicPk_no (by unfold okVPk; omega)]
    obtain ⟨k3, k7, b0⟩ := lies2 w #[.slice A N c, .int .i64 p] #[.slice none 0 0, .int .i64 0] 24 24
    have HO := Lib.hid (ho.below b0)
    have r0 := k3.c0
    have r1 := k3.c1
    have K3 := Lib.hid k3
    have K7 := Lib.hid k7
    have HZ := Lib.hid k7.lt
    have BB := Lib.hid b0
    clear k3 k7 b0 ho
    go_enter Try.func10, Try.ntmps10
    go_wp2_with fail
    refine (rcheck_no A N c p _ (by omega) hN47).mono ?_
    rintro e w1 ⟨rfl, b1⟩
    clear r0 r1 HO K3
    replace K7 := Lib.hid (K7.out.below b1 K7.out.lt)
    replace BB := Lib.hid (below3 BB.out b1)
    clear b1
    have q0 := K7.out.c0
    have q1 := K7.out.c1
    have f0 := K7.out.frozen 0
    have f1 := K7.out.frozen 1
    have HB := Lib.hid ((BB.out.setCell (p := ⟨w.heap.size + 1, 0, none⟩) (by simp <;> omega) (.slice none 0 0)).setCell (p := ⟨w.heap.size + 1, 1, none⟩) (by simp <;> omega) (.int .i64 0))
    go_wp2
    exact bodyPost_ret (v := .tuple #[.slice none 0 0, .agg #[.slice none 0 0, .int .i64 0], .int .i64 1]) (by simp [results, Try.results10, go_sem, *]) rfl (vic_none HB.out)

set_option maxHeartbeats 4000000 in
theorem rsteal_any (A B : Option Addr) (N c n d : Nat) (p me : Int) (bs hs : List Int) (w : World) (ho : Octs w A N bs) (hN : N ≤ 1000) (hx : Ints w B n hs) :
    Calls Try.prog 12 #[.agg #[.slice A N c, .int .i64 p], .slice B n d, .int .i64 me] w (StealP (stealPk bs N hs n p me) w) := by
  by_cases hok : okVPk N p n me
  · obtain ⟨⟨x, rs, q, er⟩, hS⟩ : ∃ a, stealPk bs N hs n p me = a := ⟨_, rfl⟩
    rw [hS]
    have HS := Lib.hid hS
    have HOK := Lib.hid hok
    have hv := vicPk_ok (bs := bs) hok
    rw [Int.toNat_natCast] at hv
    obtain ⟨vs, hvs⟩ : ∃ l, butPk (orderOf bs p.toNat n) me = l := ⟨_, rfl⟩
    obtain ⟨m, hm⟩ : ∃ m : Int, ((min (p.toNat + 2 * (n - 1)) N : Nat) : Int) = m := ⟨_, rfl⟩
    rw [hvs, hm] at hv
    have HV := Lib.hid hv
    have HVS := Lib.hid hvs
    have HM := Lib.hid hm
    have HI : Hid (∀ z, z ∈ vs → 0 ≤ z ∧ z < n) := Lib.hid (fun z hz => by rw [← hvs] at hz; exact order_mem (but_memPk.1 hz).1)
    obtain ⟨nv, hnv⟩ : ∃ k, vs.length = k := ⟨_, rfl⟩
    have HNV := Lib.hid hnv
    clear hS hok hv hvs hm hnv
    obtain ⟨k3, k7, b0⟩ := lies2 w #[.slice A N c, .int .i64 p] #[.slice none 0 0, .int .i64 0] 24 24
    have HO := Lib.hid (ho.below b0)
    have r0 := k3.c0
    have r1 := k3.c1
    have K3 := Lib.hid k3
    have K7 := Lib.hid k7
    have HZ := Lib.hid k7.lt
    have BB := Lib.hid b0
    have HX := Lib.hid (hx.below b0)
    have LX := Lib.hid hx.1
    clear k3 k7 b0 ho hx
    go_enter Try.func12, Try.ntmps12
    go_wp2_with fail
    refine (rvic_any A N c p n me bs _ HO.out hN).mono ?_
    rw [HV.out]
    rintro e w2 ⟨A2, c2, B2, d2, he, o2, d2o, b2⟩
    dsimp only at he
    rw [HNV.out] at he
    subst he
    have OV := Lib.hid (o2.intsN HNV.out)
    have DO := Lib.hid (d2o.base (show w.heap.size + 1 + 1 ≤ _ from HZ.out))
    clear r0 r1 o2 d2o
    replace K3 := Lib.hid (K3.out.below b2 K3.out.lt)
    replace K7 := Lib.hid (K7.out.below b2 K7.out.lt)
    replace HO := Lib.hid (HO.out.below b2)
    replace HX := Lib.hid (HX.out.below b2)
    replace BB := Lib.hid (below3 BB.out b2)
    clear b2
    have kt := Bk.new w2 24 #[.slice A2 bs.length c2, .int .i64 m]
    have ba := (Below.refl w2.heap.size w2).alloc (Nat.le_refl _) (.cells #[.slice A2 bs.length c2, .int .i64 m] 24)
    replace K3 := Lib.hid (K3.out.below ba K3.out.lt)
    replace K7 := Lib.hid (K7.out.below ba K7.out.lt)
    replace HO := Lib.hid (HO.out.below ba)
    replace HX := Lib.hid (HX.out.below ba)
    replace OV := Lib.hid (OV.out.below ba)
    replace DO := Lib.hid (DO.out.below ba)
    replace BB := Lib.hid (below3 BB.out ba)
    clear ba
    have KT := Lib.hid kt
    clear kt
    obtain ⟨W, hW⟩ : ∃ W, w2.alloc (.cells #[.slice A2 bs.length c2, .int .i64 m] 24) = W := ⟨_, rfl⟩
    rw [hW] at KT BB K3 K7 HO HX OV DO
    obtain ⟨gt, hg⟩ : ∃ g, w2.heap.size = g := ⟨_, rfl⟩
    rw [hg] at KT
    have HW := Lib.hid hW
    have HG := Lib.hid hg
    clear hW hg
    go_upto_region 2 with fail
    rw [HW.out]
    try rw [HG.out]
    clear HW HG
    have hnb := HX.out.2.1
    have hnvb := OV.out.2.1
    go_wp2
    go_loopw [31] (fun t wr => W = wr ∧ ∃ k : Nat, k ≤ n ∧ t = .int .i64 k ∧ Hid (∀ j, j < k → ¬ nth hs j < 0)) (fun t _ => n - (intOf t).toNat)
    case atStart => exact ⟨rfl, 0, Nat.zero_le _, rfl, Lib.hid (fun i hi => by omega)⟩
    case round =>
      rename World => wr
      obtain ⟨rfl, k, hk, rfl, OK⟩ := hrel
      by_cases hkn : k < n
      · obtain ⟨b, o, rfl, hb, c0⟩ := HX.out.at_pk hkn
        have hkl : k < hs.length := by rw [LX.out]; exact hkn
        obtain ⟨z, hz⟩ : ∃ z, nth hs k = z := ⟨_, rfl⟩
        rw [hz] at c0
        have HZ1 := Lib.hid hz
        clear hz
        by_cases hz0 : z < 0
        · have hS := HS.out.symm.trans (stealPk_1 (bs := bs) (fun q => by have := negPk_yes hkl (by rw [HZ1.out]; exact hz0); rw [q.2] at this; cases this))
          cases hS
          have t0 : decide (z < 0) = true := decide_eq_true hz0
          clear hz0 HI HX HO OV
          have q0 := K7.out.c0
          have q1 := K7.out.c1
          have f0 := K7.out.frozen 0
          have f1 := K7.out.frozen 1
          have HB := Lib.hid ((BB.out.setCell (p := ⟨w.heap.size + 1, 0, none⟩) (by simp <;> omega) (.slice none 0 0)).setCell (p := ⟨w.heap.size + 1, 1, none⟩) (by simp <;> omega) (.int .i64 0))
          go_wp2
          exact bodyPost_ret (v := .tuple #[.int .i64 0, .agg #[.slice none 0 0, .int .i64 0], .int .i64 1]) (by simp [results, Try.results12, go_sem, *]) rfl (trip_none HB.out)
        · have OK2 : Hid (∀ j, j < k + 1 → ¬ nth hs j < 0) := Lib.hid (fun i hi => by
        by_cases e : i = k
        · subst e; rw [HZ1.out]; exact hz0
        · exact OK.out i (by omega))
          have t0 : decide (z < 0) = false := decide_eq_false hz0
          clear hz0 OK
          go_wp2
          go_roundw
          case rel => exact ⟨trivial, k + 1, by omega, by go_num, OK2⟩
          case measure => simp [intOf]; omega
      · have HN : Hid (negPk hs = false) := Lib.hid (negPk_no (fun j hj => OK.out j (by have := LX.out; omega)))
        clear OK
        go_wp2
        go_loopw [41] (fun t wr => W = wr ∧ ∃ k : Nat, k ≤ nv ∧ t = .int .i64 k ∧ Hid (∀ j, j < k → hasPk hs (nth vs j) = false)) (fun t _ => nv - (intOf t).toNat)
        case atStart => exact ⟨rfl, 0, Nat.zero_le _, rfl, Lib.hid (fun i hi => by omega)⟩
        case round =>
          rename World => wr2
          obtain ⟨rfl, k2, hk2, rfl, OK2⟩ := hrel
          by_cases hkn2 : k2 < nv
          · obtain ⟨b, o, rfl, hb, c0⟩ := OV.out.at_pk hkn2
            have hkl : k2 < vs.length := by rw [HNV.out]; exact hkn2
            obtain ⟨z, hz⟩ : ∃ z, nth vs k2 = z := ⟨_, rfl⟩
            rw [hz] at c0
            have HZ1 := Lib.hid hz
            have hzi := HI.out z (nth_memPk.2 ⟨k2, hkl, hz⟩)
            obtain ⟨zn, rfl⟩ := Int.eq_ofNat_of_zero_le hzi.1
            have hzn : zn < n := by omega
            obtain ⟨b3, o3, rfl, hb3, c3⟩ := HX.out.at_pk hzn
            obtain ⟨y, hy⟩ : ∃ y, nth hs zn = y := ⟨_, rfl⟩
            rw [hy] at c3
            have HY : Hid (hasPk hs (zn : Int) = decide (0 < y)) := Lib.hid (by unfold hasPk; rw [Int.toNat_natCast, hy])
            clear hz hy hzi
            by_cases hg : hasPk hs (zn : Int) = true
            · have hS := HS.out.symm.trans (stealPk_0 (bs := bs) HOK.out HN.out (k := k2) (by rw [HVS.out]; exact hkl) (by rw [HVS.out, HZ1.out]; exact hg) (fun j hj => by rw [HVS.out]; exact OK2.out j hj))
              rw [HVS.out, HM.out, HZ1.out] at hS
              cases hS
              have t0 : decide (0 < y) = true := by rw [← HY.out]; exact hg
              clear hg HI HO OV
              have q0 := K7.out.c0
              have q1 := K7.out.c1
              have f0 := K7.out.frozen 0
              have f1 := K7.out.frozen 1
              have t0 := KT.out.c0
              have t1 := KT.out.c1
              have hlt := KT.out.lt
              have S7 := Lib.hid (show Bk ((W.setCell ⟨w.heap.size + 1, 0, none⟩ (.slice A2 bs.length c2)).setCell ⟨w.heap.size + 1, 1, none⟩ (.int .i64 q)) (w.heap.size + 1) 24 #[.slice A2 bs.length c2, .int .i64 q] from (K7.out.set_ 0 _).set_ 1 _)
              have HB := Lib.hid ((BB.out.setCell (p := ⟨w.heap.size + 1, 0, none⟩) (by simp <;> omega) (.slice A2 bs.length c2)).setCell (p := ⟨w.heap.size + 1, 1, none⟩) (by simp <;> omega) (.int .i64 q))
              have HD := Lib.hid ((DO.out.far (p := ⟨w.heap.size + 1, 0, none⟩) (by simp) (.slice A2 bs.length c2)).far (p := ⟨w.heap.size + 1, 1, none⟩) (by simp) (.int .i64 q))
              go_upto_region 14 with fail
              go_region
              go_wp2
              have s0 := S7.out.drew.c0
              have s1 := S7.out.drew.c1
              exact bodyPost_ret (v := .tuple #[.int .i64 (zn : Int), .agg #[.slice A2 bs.length c2, .int .i64 q], .int .i64 0]) (by simp [results, Try.results12, go_sem, s0, s1]) rfl ⟨A2, c2, rfl, HD.out.drew.base (show w.heap.size ≤ w.heap.size + 1 + 1 by omega), HB.out.drew⟩
            · have OK3 : Hid (∀ j, j < k2 + 1 → hasPk hs (nth vs j) = false) := Lib.hid (fun i hi => by
          by_cases e : i = k2
          · subst e; rw [HZ1.out]; simpa using hg
          · exact OK2.out i (by omega))
              have t0 : decide (0 < y) = false := by rw [← HY.out]; simpa using hg
              clear hg OK2
              go_wp2
              go_roundw
              case rel => exact ⟨trivial, k2 + 1, by omega, by go_num, OK3⟩
              case measure => simp [intOf]; omega
          · obtain rfl : nv = k2 := by omega
            have hS := HS.out.symm.trans (stealPk_5 (bs := bs) HOK.out HN.out (by rw [HVS.out, HNV.out]; exact OK2.out))
            cases hS
            clear HI HX HO OV
            have q0 := K7.out.c0
            have q1 := K7.out.c1
            have f0 := K7.out.frozen 0
            have f1 := K7.out.frozen 1
            have HB := Lib.hid ((BB.out.setCell (p := ⟨w.heap.size + 1, 0, none⟩) (by simp <;> omega) (.slice none 0 0)).setCell (p := ⟨w.heap.size + 1, 1, none⟩) (by simp <;> omega) (.int .i64 0))
            go_wp2
            exact bodyPost_ret (v := .tuple #[.int .i64 0, .agg #[.slice none 0 0, .int .i64 0], .int .i64 5]) (by simp [results, Try.results12, go_sem, *]) rfl (trip_none HB.out)
  · rw [show stealPk bs N hs n p me = (0, [], 0, 1) from stealPk_1 (fun q => hok q.1)]
    have HV := Lib.hid (vicPk_no (bs := bs) hok)
    clear hok
    obtain ⟨k3, k7, b0⟩ := lies2 w #[.slice A N c, .int .i64 p] #[.slice none 0 0, .int .i64 0] 24 24
    have HO := Lib.hid (ho.below b0)
    have r0 := k3.c0
    have r1 := k3.c1
    have K3 := Lib.hid k3
    have K7 := Lib.hid k7
    have HZ := Lib.hid k7.lt
    have BB := Lib.hid b0
    have HX := Lib.hid (hx.below b0)
    have LX := Lib.hid hx.1
    clear k3 k7 b0 ho hx
    go_enter Try.func12, Try.ntmps12
    go_wp2_with fail
    refine (rvic_any A N c p n me bs _ HO.out hN).mono ?_
    rw [HV.out]
    rintro e w2 ⟨A2, c2, B2, d2, rfl, -, -, b2⟩
    clear r0 r1
    replace K7 := Lib.hid (K7.out.below b2 K7.out.lt)
    replace BB := Lib.hid (below3 BB.out b2)
    clear b2
    have kt := Bk.new w2 24 #[.slice A2 0 c2, .int .i64 0]
    have ba := (Below.refl w2.heap.size w2).alloc (Nat.le_refl _) (.cells #[.slice A2 0 c2, .int .i64 0] 24)
    replace K7 := Lib.hid (K7.out.below ba K7.out.lt)
    replace BB := Lib.hid (below3 BB.out ba)
    clear ba
    have KT := Lib.hid kt
    clear kt
    obtain ⟨W, hW⟩ : ∃ W, w2.alloc (.cells #[.slice A2 0 c2, .int .i64 0] 24) = W := ⟨_, rfl⟩
    rw [hW] at KT BB K7
    obtain ⟨gt, hg⟩ : ∃ g, w2.heap.size = g := ⟨_, rfl⟩
    rw [hg] at KT
    have HW := Lib.hid hW
    have HG := Lib.hid hg
    clear hW hg
    go_upto_region 2 with fail
    rw [HW.out]
    try rw [HG.out]
    clear HW HG
    have q0 := K7.out.c0
    have q1 := K7.out.c1
    have f0 := K7.out.frozen 0
    have f1 := K7.out.frozen 1
    have HB := Lib.hid ((BB.out.setCell (p := ⟨w.heap.size + 1, 0, none⟩) (by simp <;> omega) (.slice none 0 0)).setCell (p := ⟨w.heap.size + 1, 1, none⟩) (by simp <;> omega) (.int .i64 0))
    go_wp2
    exact bodyPost_ret (v := .tuple #[.int .i64 0, .agg #[.slice none 0 0, .int .i64 0], .int .i64 1]) (by simp [results, Try.results12, go_sem, *]) rfl (trip_none HB.out)

end Go.Proofs.Ytljfinfjchkphaa

/-
  The law JoinsOnce: the walk.
-/
import Derived.Test.YtkffmohgnbnhkaaJv
namespace Go.Proofs.Ytkffmohgnbnhkaa
open Go.RowKit

theorem goes_app (a b : List Tm) (on : Int) : goesL (a ++ b) on = goesL a on ++ goesL b on := by unfold goesL; rw [List.filter_append, List.map_append]
theorem left_app (a b : List Tm) (on : Int) : leftL (a ++ b) on = leftL a on ++ leftL b on := by unfold leftL; rw [List.filter_append]
theorem split_next {l : List Tm} {j : Nat} (h : j < l.length) : l = l.take j ++ (ith l j :: l.drop (j + 1)) := by
  rw [ith_get h, ← List.drop_eq_getElem_cons h, List.take_append_drop]
theorem goes_at {l : List Tm} {j : Nat} (h : j < l.length) {on : Int} (e : jO l j = on) :
    (goesL (l.take j) on).length < (goesL l on).length ∧ nth (goesL l on) (goesL (l.take j) on).length = jA l j := by
  have h1 : goesL l on = goesL (l.take j) on ++ (jA l j :: goesL (l.drop (j + 1)) on) := by
    conv => lhs; rw [split_next h, goes_app]
    congr 1
    unfold goesL
    have : (ith l j).1 = on := e
    simp [this, jA]
  have h2 : (goesL (l.take j) on).length < (goesL l on).length := by rw [h1]; simp
  refine ⟨h2, ?_⟩
  rw [nth_get h2]
  simp only [h1]
  simp
theorem left_at {l : List Tm} {j : Nat} (h : j < l.length) {on : Int} (e : jO l j ≠ on) :
    (leftL (l.take j) on).length < (leftL l on).length ∧ ith (leftL l on) (leftL (l.take j) on).length = ith l j := by
  have h1 : leftL l on = leftL (l.take j) on ++ (ith l j :: leftL (l.drop (j + 1)) on) := by
    conv => lhs; rw [split_next h, left_app]
    congr 1
    unfold leftL
    have : ¬ (ith l j).1 = on := e
    simp [this]
  have h2 : (leftL (l.take j) on).length < (leftL l on).length := by rw [h1]; simp
  refine ⟨h2, ?_⟩
  rw [ith_get h2]
  simp only [h1]
  simp
theorem goes_left_nil (l : List Tm) (on : Int) : goesL (leftL l on) on = [] ∧ leftL (leftL l on) on = leftL l on := by
  unfold goesL leftL
  constructor
  · rw [List.filter_filter]
    simp
  · rw [List.filter_filter]
    congr 1
    funext t
    simp

set_option maxRecDepth 100000 in
set_option maxHeartbeats 8000000 in
theorem lonce_any (A : Option Addr) (n c : Nat) (l : List Tm) (x : Int) (w : World) (hx : Tms w A n c l) (fx : Fit x) :
    Calls Try.prog 5 #[.slice A n c, .int .i64 x] w (TrueAns w) := by
  have HX := Lib.hid hx
  have LX := Lib.hid hx.1
  have HFX := Lib.hid fx
  have hnc := hx.2.1
  clear hx fx
  by_cases hn : 260 < n
  · have t0 : decide ((260 : Int) < (n : Int)) = true := by simp; omega
    go_enter Try.func5, Try.ntmps5
    go_wp2_with fail
    refine (live_any _).mono ?_
    rintro e w1 ⟨rfl, b⟩
    have B1 := Lib.hid b
    clear b
    go_wp2_with fail
    go_ret
    exact ⟨rfl, B1.out⟩
  · have t0 : decide ((260 : Int) < (n : Int)) = false := by simp; omega
    by_cases hok : okJ l
    · have HC := Lib.hid (checkR_yes hok)
      have HD1 : Hid (doneR l x = (0, goesL l x, leftL l x)) := Lib.hid (if_pos hok)
      have HD2 : Hid (doneR (leftL l x) x = (0, [], leftL l x)) := Lib.hid (by
        unfold doneR
        rw [if_pos (hok.left x), (goes_left_nil l x).1, (goes_left_nil l x).2])
      have HCL := Lib.hid (checkR_yes (hok.left x))
      have hsum := goes_left (l := l) x
      obtain ⟨ws, hws⟩ : ∃ ws, goesL l x = ws := ⟨_, rfl⟩
      obtain ⟨ls, hls⟩ : ∃ ls, leftL l x = ls := ⟨_, rfl⟩
      rw [hws, hls] at HD1
      rw [hls] at HD2 HCL
      have HW := Lib.hid hws
      have HL := Lib.hid hls
      obtain ⟨nw, hnw⟩ : ∃ m, ws.length = m := ⟨_, rfl⟩
      obtain ⟨nl, hnl⟩ : ∃ m, ls.length = m := ⟨_, rfl⟩
      have HNW := Lib.hid hnw
      have HNL := Lib.hid hnl
      rw [hws, hls, hnw, hnl, LX.out] at hsum
      have hl1 := hok.1
      rw [LX.out] at hl1
      have hs2 : nw ≤ 256 ∧ nl ≤ 256 := by omega
      have hwr : IntKind.i64.wrap ((nw : Int) + (nl : Int)) = (n : Int) := by rw [IntKind.wrap_i64]; omega
      have HNN : Hid (((n : Int) != (n : Int)) = false) := Lib.hid (by simp)
      have tnn := HNN.out
      have HSM := Lib.hid (sameT_refl ls)
      have HSUM := Lib.hid hsum
      clear hok hws hls hnw hnl hsum hl1
      go_enter Try.func5, Try.ntmps5
      go_wp2_with fail
      refine (live_any _).mono ?_
      rintro e w1 ⟨rfl, b⟩
      have B1 := Lib.hid b
      clear b
      go_wp2_with fail
      refine (pcheck_any A n c l _ (HX.out.below B1.out)).mono ?_
      rw [HC.out]
      rintro e w2 ⟨rfl, b⟩
      have B2 := Lib.hid (below3 B1.out b)
      clear b 
      go_wp2_with fail
      refine (pdone_any A n c l x _ (HX.out.below B2.out)).mono ?_
      rw [HD1.out]
      rintro e w3 ⟨A3, c3, A3', c3', rfl, o3, q3, b⟩
      dsimp only at o3 q3 ⊢
      have B3 := Lib.hid (below3 B2.out b)
      have OW := Lib.hid (o3.base B2.out.size)
      have OL := Lib.hid (q3.base B2.out.size)
      clear b o3 q3
      rw [HNW.out, HNL.out]
      have hcw := OW.out.cap
      have hcl := OL.out.cap
      rw [HNW.out] at hcw
      rw [HNL.out] at hcl
      go_wp2_with fail
      refine (pdone_any A3' nl c3' ls x _ (OL.out.tmsN HNL.out)).mono ?_
      rw [HD2.out]
      rintro e w4 ⟨A4, c4, A4', c4', rfl, o4, q4, b⟩
      dsimp only at o4 q4 ⊢
      have B4 := Lib.hid (below3 B3.out b)
      replace OW := Lib.hid (OW.out.below b)
      replace OL := Lib.hid (OL.out.below b)
      have OE := Lib.hid (o4.base B3.out.size)
      have OM := Lib.hid (q4.base B3.out.size)
      clear b o4 q4
      rw [HNL.out]
      have hce := OE.out.cap
      go_wp2_with fail
      refine (psame_any A3' A4' nl c3' nl c4' ls ls _ (OL.out.tmsN HNL.out) (OM.out.tmsN HNL.out)).mono ?_
      rw [HSM.out]
      rintro e w5 ⟨rfl, k5, rfl⟩
      replace OW := Lib.hid (OW.out.below (drew_below w4 k5))
      replace OL := Lib.hid (OL.out.below (drew_below w4 k5))
      replace B4 := Lib.hid (below3 B4.out (drew_below w4 k5))
      clear OM OE hce
      generalize w4.drewN k5 = w5 at OW OL B4 ⊢
      go_wp2_with fail
      go_loopw [12, 13, 71] (fun t12 t13 t wr => ∃ (j i k : Nat), j ≤ n ∧ t = .int .i64 j ∧ t12 = .int .i64 i ∧ t13 = .int .i64 k ∧ Hid (i = (goesL (l.take j) x).length) ∧ Hid (k = (leftL (l.take j) x).length) ∧ Hid (Below w5.heap.size w5 wr)) (fun _ _ t _ => n - (intOf t).toNat)
      case atStart => exact ⟨0, 0, 0, Nat.zero_le _, rfl, rfl, rfl, Lib.hid rfl, Lib.hid rfl, Lib.hid (Below.refl _ _)⟩
      case round =>
        rename World => wr
        obtain ⟨j, i, k, hj, rfl, rfl, rfl, HI, HK, BW⟩ := hrel
        by_cases hjn : j < n
        · obtain ⟨bL, oL, rfl, hbL, c0, c1⟩ := (HX.out.below (below3 B4.out BW.out)).at_ hjn
          have hjl : j < l.length := by rw [LX.out]; exact hjn
          obtain ⟨z1, hz1⟩ : ∃ z, jO l j = z := ⟨_, rfl⟩
          obtain ⟨z2, hz2⟩ : ∃ z, jA l j = z := ⟨_, rfl⟩
          have HIT := Lib.hid (show ith l j = (z1, z2) by rw [← hz1, ← hz2]; rfl)
          have HGN := Lib.hid (goes_next hjl x)
          have HLN := Lib.hid (left_next hjl x)
          rw [hz1] at c0 HGN HLN
          rw [hz2] at c1 HGN
          have HGA := Lib.hid (fun e : jO l j = x => goes_at hjl e)
          have HLA := Lib.hid (fun e : jO l j ≠ x => left_at hjl e)
          rw [hz1, hz2, HW.out] at HGA
          rw [hz1, HL.out, HIT.out] at HLA
          have k1 := Bk.new wr 37 #[.int .i64 z1, .int .i64 z2]
          have b1 := (Below.refl wr.heap.size wr).alloc (Nat.le_refl _) (.cells #[.int .i64 z1, .int .i64 z2] 37)
          have d0 := k1.c0
          have d1 := k1.c1
          have B9 := Lib.hid (below3 BW.out b1)
          have lk := k1.lt
          clear hz1 hz2 k1 b1 BW
          by_cases he : z1 = x
          · have t0 : (z1 == x) = true := by simpa using he
            obtain ⟨g1, g2⟩ := HGA.out he
            rw [← HI.out] at g1 g2
            rw [HNW.out] at g1
            obtain ⟨bY, oY, rfl, hbY, cY⟩ := ((OW.out.intsN HNW.out).below B9.out).at_ g1
            rw [g2] at cY
            have HI2 : Hid (i + 1 = (goesL (l.take (j + 1)) x).length) := Lib.hid (by rw [HGN.out, if_pos he, List.length_append, ← HI.out]; rfl)
            have HK2 : Hid (k = (leftL (l.take (j + 1)) x).length) := Lib.hid (by rw [HLN.out, if_pos he]; exact HK.out)
            have tg : decide ((nw : Int) ≤ (i : Int)) = false := by simp; omega
            have tn : (z2 != z2) = false := by simp
            clear he g2 HI HK HGN HLN HGA HLA
            go_wp2_with fail
            go_quiet (fail)
            go_wp2_with fail
            go_roundw
            case rel => exact ⟨j + 1, i + 1, k, by omega, by go_num, by go_num, rfl, HI2, HK2, Lib.hid (below_drewN B9.out _)⟩
            case measure => simp [intOf]; omega
          · have t0 : (z1 == x) = false := by simpa using he
            obtain ⟨g1, g2⟩ := HLA.out he
            rw [← HK.out] at g1 g2
            rw [HNL.out] at g1
            obtain ⟨bY, oY, rfl, hbY, cY0, cY1⟩ := ((OL.out.tmsN HNL.out).below B9.out).at_ g1
            unfold jO at cY0
            unfold jA at cY1
            rw [g2] at cY0 cY1
            have HI2 : Hid (i = (goesL (l.take (j + 1)) x).length) := Lib.hid (by rw [HGN.out, if_neg he]; exact HI.out)
            have HK2 : Hid (k + 1 = (leftL (l.take (j + 1)) x).length) := Lib.hid (by rw [HLN.out, if_neg he, List.length_append, ← HK.out]; rfl)
            have tg : decide ((nl : Int) ≤ (k : Int)) = false := by simp; omega
            have hN := neq_tim z1 z2 z1 z2
            have hG := guard_tim .neq
            simp only [beq_self_eq_true, Bool.and_self, Bool.not_true] at hN
            clear he g2 HI HK HGN HLN HGA HLA
            go_wp2_with fail
            go_quiet (fail)
            go_wp2_with fail
            go_roundw
            case rel => exact ⟨j + 1, i, k + 1, by omega, by go_num, rfl, by go_num, HI2, HK2, Lib.hid (below_drewN B9.out _)⟩
            case measure => simp [intOf]; omega
        · obtain rfl : n = j := by omega
          have B9 := Lib.hid (below3 B4.out BW.out)
          have OLW := Lib.hid ((OL.out.tmsN HNL.out).below BW.out)
          clear BW
          go_wp2_with fail
          refine (pcheck_any _ nl c3' ls _ OLW.out).mono ?_
          rw [HCL.out]
          rintro e wz ⟨rfl, b⟩
          have BF := Lib.hid (below3 B9.out b)
          clear b
          go_wp2_with fail
          go_ret
          exact ⟨rfl, BF.out⟩
    · have HC := Lib.hid (checkR_no hok)
      clear hok
      go_enter Try.func5, Try.ntmps5
      go_wp2_with fail
      refine (live_any _).mono ?_
      rintro e w1 ⟨rfl, b⟩
      have B1 := Lib.hid b
      clear b
      go_wp2_with fail
      refine (pcheck_any A n c l _ (HX.out.below B1.out)).mono ?_
      rw [HC.out]
      rintro e w2 ⟨rfl, b⟩
      have B2 := Lib.hid (below3 B1.out b)
      clear b 
      go_wp2_with fail
      go_ret
      exact ⟨rfl, B2.out⟩

end Go.Proofs.Ytkffmohgnbnhkaa

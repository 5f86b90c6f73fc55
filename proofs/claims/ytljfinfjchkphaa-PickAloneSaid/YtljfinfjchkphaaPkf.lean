/-
  Layer 16: the document's Lucky; numbers held against each other; the chapter's example.
-/
import Derived.Test.YtljfinfjchkphaaPke
import Derived.Deep.QuietTactic
import Derived.BigQuiet
namespace Go.Proofs.Ytljfinfjchkphaa
open Go.RowKit

set_option maxHeartbeats 4000000 in
theorem rlucky_any (A B F : Option Addr) (N c n d k e : Nat) (p : Int) (bs : List Int) (ts : List Tn) (fs : List Bool) (w : World) (ho : Octs w A N bs) (hx : Tns w B n d ts) (hf : Flags w F k fs) (hN : N ≤ 1000) :
    Calls Try.prog 14 #[.agg #[.slice A N c, .int .i64 p], .slice B n d, .slice F k e] w (StealP (luckPk bs N ts fs p) w) := by
  have hN47 := ho.2.1
  by_cases hp : 0 ≤ p ∧ p ≤ N
  · by_cases hok : okLn ts
    · by_cases hl : k = n
      · subst hl
        have hlk : luckPk bs N ts fs p = hvPk bs N (wtsPk ts fs) p := luck_hv ⟨hok, by rw [hf.1, hx.1]⟩
        obtain ⟨⟨x, rs, q, er⟩, hh⟩ : ∃ a, hvPk bs N (wtsPk ts fs) p = a := ⟨_, rfl⟩
        rw [hlk, hh]
        have HH := Lib.hid hh
        have HC := Lib.hid (chkLn_yes hok)
        have hk16 : k ≤ 16 := by have := hok.1.2; rw [hx.1] at this; exact this
        have HWL : Hid ((wtsPk ts fs).length = k) := Lib.hid (by rw [wtsPk_len, hx.1])
        have HWA : Hid (∀ j, j < k → nth (wtsPk ts fs) j = if bth fs j then (tth ts j).wt else 0) := Lib.hid (fun j hj => wtsPk_at (by rw [hx.1]; exact hj))
        obtain ⟨ws, hws⟩ : ∃ l, wtsPk ts fs = l := ⟨_, rfl⟩
        rw [hws] at HH HWL HWA
        clear hlk hh hok hws
        obtain ⟨k3, k7, b0⟩ := lies2 w #[.slice A N c, .int .i64 p] #[.slice none 0 0, .int .i64 0] 24 24
        have HO := Lib.hid (ho.below b0)
        have r0 := k3.c0
        have r1 := k3.c1
        have K3 := Lib.hid k3
        have K7 := Lib.hid k7
        have HZ := Lib.hid k7.lt
        have BB := Lib.hid b0
        have HX := Lib.hid (hx.below b0)
        have HF := Lib.hid (hf.below b0)
        have LX := Lib.hid hx.1
        have LF := Lib.hid hf.1
        clear k3 k7 b0 ho hx hf
        go_enter Try.func14, Try.ntmps14
        go_wp2_with fail
        refine (rcheck_ok A N c p _ hp.1 hp.2).mono ?_
        rintro e1 w1 ⟨rfl, b1⟩
        clear r0 r1
        replace K3 := Lib.hid (K3.out.below b1 K3.out.lt)
        replace K7 := Lib.hid (K7.out.below b1 K7.out.lt)
        replace HO := Lib.hid (HO.out.below b1)
        replace HX := Lib.hid (HX.out.below b1)
        replace HF := Lib.hid (HF.out.below b1)
        replace BB := Lib.hid (below3 BB.out b1)
        clear b1
        go_wp2_with fail
        refine (rchk_tn B k d ts _ HX.out).mono ?_
        rw [HC.out]
        rintro e2 w2 ⟨rfl, b2⟩
        replace K3 := Lib.hid (K3.out.below b2 K3.out.lt)
        replace K7 := Lib.hid (K7.out.below b2 K7.out.lt)
        replace HO := Lib.hid (HO.out.below b2)
        replace HX := Lib.hid (HX.out.below b2)
        replace HF := Lib.hid (HF.out.below b2)
        replace BB := Lib.hid (below3 BB.out b2)
        clear b2
        have hlt7 := Lib.hid K7.out.lt
        go_wp2
        go_loopw [9, 30] (fun t9 t wr => ∃ (i mo : Nat) (Ao : Option Addr) (co : Nat), i ≤ k ∧ t = .int .i64 i ∧ t9 = .slice Ao mo co ∧ Hid (mo = (ws.take i).length) ∧ Hid (OwnI 3 wr w2.heap.size Ao co (ws.take i)) ∧ Hid (Below w2.heap.size w2 wr)) (fun _ t _ => k - (intOf t).toNat)
        case atStart => exact ⟨0, 0, none, 0, Nat.zero_le _, rfl, rfl, Lib.hid rfl, Lib.hid (OwnI.nil_ _ _ _), Lib.hid (Below.refl _ _)⟩
        case round =>
          rename World => wr
          obtain ⟨i, mo, Ao, co, hi, rfl, rfl, HM, OW, BW⟩ := hrel
          by_cases hik : i < k
          · have hil : i < ws.length := by rw [HWL.out]; exact hik
            have hmi : mo = i := by rw [HM.out, List.length_take]; omega
            have fz := (HX.out.fit hik).1
            obtain ⟨bL, oL, rfl, hbL, c0, c1, c2, c3, c4⟩ := (HX.out.below BW.out).at_ hik
            obtain ⟨⟨x0, x1, x2, x3, x4⟩, hx0⟩ : ∃ y, tth ts i = y := ⟨_, rfl⟩
            rw [hx0] at c0 c1 c2 c3 c4 fz
            have HX0 : Hid ((tth ts i).wt = x0) := Lib.hid (by rw [hx0])
            dsimp only at c0 c1 c2 c3 c4 fz
            have kt := Bk.new wr 42 #[.int .i64 x0, .int .i64 x1, .int .i64 x2, .int .i64 x3, .int .i64 x4]
            have ba := (Below.refl wr.heap.size wr).alloc (Nat.le_refl _) (.cells #[.int .i64 x0, .int .i64 x1, .int .i64 x2, .int .i64 x3, .int .i64 x4] 42)
            replace OW := Lib.hid (OW.out.below ba)
            replace BW := Lib.hid (below3 BW.out ba)
            obtain ⟨W2, hW⟩ : ∃ W, wr.alloc (.cells #[.int .i64 x0, .int .i64 x1, .int .i64 x2, .int .i64 x3, .int .i64 x4] 42) = W := ⟨_, rfl⟩
            rw [hW] at kt OW BW
            obtain ⟨gt, hg⟩ : ∃ g, wr.heap.size = g := ⟨_, rfl⟩
            rw [hg] at kt
            have KT := Lib.hid kt
            have HW := Lib.hid hW
            have HG := Lib.hid hg
            clear hW hg kt ba hx0
            go_upto_region 7 with fail
            rw [HW.out]
            try rw [HG.out]
            clear HW HG c0 c1 c2 c3 c4 hbL
            obtain ⟨bF, oF, rfl, hbF, cf⟩ := (HF.out.below BW.out).at_pk hik
            obtain ⟨d0, d1, d2, d3, d4⟩ := KT.out.c5
            have hgl := KT.out.lt
            cases hb : bth fs i with
            | false =>
              have HE : Hid (ws.take (i + 1) = ws.take i ++ [0]) := Lib.hid (by rw [take_nextPk hil, HWA.out i hik, hb]; rfl)
              rw [hb] at cf
              have T1 := Lib.hid (ints1 W2 3 (fit0))
              have b9 := (Below.refl W2.heap.size W2).alloc (Nat.le_refl _) (.cells #[.int .i64 0] 3)
              have O2 := Lib.hid (OW.out.below b9)
              have B2 := Lib.hid (below3 BW.out b9)
              have HS1 := Lib.hid B2.out.size
              obtain ⟨p1, hp1⟩ : ∃ p1, ws.take i = p1 := ⟨_, rfl⟩
              rw [hp1] at O2 HM HE
              clear hp1 OW BW b9 hb fz HX0 hil
              go_wp2_with (at_builtin; refine wpList_append_ints _ rfl _ _ 25 rfl 3 Try.underlying25 Try.intInfo w2.heap.size Ao co p1 mo HM.out rfl O2.out (some ⟨W2.heap.size, 0, none⟩) 1 1 [0] rfl T1.out (by have := HM.out; omega) HS1.out ?_; intro A4 c4 w4 ho hgr; have O5 := Lib.hid ho; have B5 := Lib.hid (below_app B2.out O2.out hgr HS1.out); clear ho hgr T1 O2 B2)
              have HN1 : Hid ((p1 ++ [0]).length = mo + 1) := Lib.hid (by have := HM.out; simp; omega)
              go_roundw
              case rel => exact ⟨i + 1, mo + 1, A4, c4, by omega, by go_num, by first | rfl | rw [HN1.out] | (simp; exact HM.out.symm), Lib.hid (by rw [HE.out, HN1.out]), Lib.hid (by rw [HE.out]; exact O5.out), B5⟩
              case measure => simp [intOf]; omega
            | true =>
              have HE : Hid (ws.take (i + 1) = ws.take i ++ [x0]) := Lib.hid (by rw [take_nextPk hil, HWA.out i hik, hb]; rw [if_pos rfl, HX0.out])
              rw [hb] at cf
              have T1 := Lib.hid (ints1 W2 3 (fz))
              have b9 := (Below.refl W2.heap.size W2).alloc (Nat.le_refl _) (.cells #[.int .i64 x0] 3)
              have O2 := Lib.hid (OW.out.below b9)
              have B2 := Lib.hid (below3 BW.out b9)
              have HS1 := Lib.hid B2.out.size
              obtain ⟨p1, hp1⟩ : ∃ p1, ws.take i = p1 := ⟨_, rfl⟩
              rw [hp1] at O2 HM HE
              clear hp1 OW BW b9 hb fz HX0 hil
              go_wp2_with (at_builtin; refine wpList_append_ints _ rfl _ _ 25 rfl 3 Try.underlying25 Try.intInfo w2.heap.size Ao co p1 mo HM.out rfl O2.out (some ⟨W2.heap.size, 0, none⟩) 1 1 [x0] rfl T1.out (by have := HM.out; omega) HS1.out ?_; intro A4 c4 w4 ho hgr; have O5 := Lib.hid ho; have B5 := Lib.hid (below_app B2.out O2.out hgr HS1.out); clear ho hgr T1 O2 B2)
              have HN1 : Hid ((p1 ++ [x0]).length = mo + 1) := Lib.hid (by have := HM.out; simp; omega)
              go_roundw
              case rel => exact ⟨i + 1, mo + 1, A4, c4, by omega, by go_num, by first | rfl | rw [HN1.out] | (simp; exact HM.out.symm), Lib.hid (by rw [HE.out, HN1.out]), Lib.hid (by rw [HE.out]; exact O5.out), B5⟩
              case measure => simp [intOf]; omega
          · obtain rfl : k = i := by omega
            have hall : ws.take k = ws := List.take_of_length_le (by rw [HWL.out]; exact Nat.le_refl _)
            rw [hall] at HM OW
            have hmk : mo = k := by rw [HM.out, HWL.out]
            subst hmk
            have OV := Lib.hid (OW.out.intsN HWL.out)
            replace HO := Lib.hid (HO.out.below BW.out)
            replace K3 := Lib.hid (K3.out.below BW.out K3.out.lt)
            replace K7 := Lib.hid (K7.out.below BW.out K7.out.lt)
            replace BB := Lib.hid (below3 BB.out BW.out)
            clear hall OW BW HM
            have r0 := K3.out.c0
            have r1 := K3.out.c1
            go_wp2_with fail
            refine (rheavy_pk A Ao N c _ co p bs ws _ HO.out hN OV.out).mono ?_
            rw [HH.out]
            rintro e3 w4 ⟨A3, c3, rfl, o3, b3⟩
            have DO := Lib.hid (o3.base (show w.heap.size + 1 + 1 ≤ _ from K7.out.lt))
            clear o3 HO OV r0 r1
            replace K3 := Lib.hid (K3.out.below b3 K3.out.lt)
            replace K7 := Lib.hid (K7.out.below b3 K7.out.lt)
            replace BB := Lib.hid (below3 BB.out b3)
            clear b3
            have q0 := K7.out.c0
            have q1 := K7.out.c1
            have f0 := K7.out.frozen 0
            have f1 := K7.out.frozen 1
            have HB := Lib.hid ((BB.out.setCell (p := ⟨w.heap.size + 1, 0, none⟩) (by simp <;> omega) (.slice A3 rs.length c3)).setCell (p := ⟨w.heap.size + 1, 1, none⟩) (by simp <;> omega) (.int .i64 q))
            have HD := Lib.hid ((DO.out.far (p := ⟨w.heap.size + 1, 0, none⟩) (by simp) (.slice A3 rs.length c3)).far (p := ⟨w.heap.size + 1, 1, none⟩) (by simp) (.int .i64 q))
            go_wp2
            exact bodyPost_ret (v := .tuple #[.int .i64 x, .agg #[.slice A3 rs.length c3, .int .i64 q], .int .i64 er]) (by simp [results, Try.results14, go_sem, *]) rfl ⟨A3, c3, rfl, HD.out.base (show w.heap.size ≤ w.heap.size + 1 + 1 by omega), HB.out⟩
      · rw [show luckPk bs N ts fs p = (0, [], 0, 1) from luckPk_1 (fun q => hl (by rw [← hf.1, ← hx.1]; exact q.2.2))]
        have HC := Lib.hid (chkLn_yes hok)
        have t0 : ((k : Int) != (n : Int)) = true := by simp; omega
        clear hl hok
        obtain ⟨k3, k7, b0⟩ := lies2 w #[.slice A N c, .int .i64 p] #[.slice none 0 0, .int .i64 0] 24 24
        have HO := Lib.hid (ho.below b0)
        have r0 := k3.c0
        have r1 := k3.c1
        have K3 := Lib.hid k3
        have K7 := Lib.hid k7
        have HZ := Lib.hid k7.lt
        have BB := Lib.hid b0
        have HX := Lib.hid (hx.below b0)
        have HF := Lib.hid (hf.below b0)
        have LX := Lib.hid hx.1
        have LF := Lib.hid hf.1
        clear k3 k7 b0 ho hx hf
        go_enter Try.func14, Try.ntmps14
        go_wp2_with fail
        refine (rcheck_ok A N c p _ hp.1 hp.2).mono ?_
        rintro e1 w1 ⟨rfl, b1⟩
        clear r0 r1
        replace K3 := Lib.hid (K3.out.below b1 K3.out.lt)
        replace K7 := Lib.hid (K7.out.below b1 K7.out.lt)
        replace HO := Lib.hid (HO.out.below b1)
        replace HX := Lib.hid (HX.out.below b1)
        replace HF := Lib.hid (HF.out.below b1)
        replace BB := Lib.hid (below3 BB.out b1)
        clear b1
        go_wp2_with fail
        refine (rchk_tn B n d ts _ HX.out).mono ?_
        rw [HC.out]
        rintro e2 w2 ⟨rfl, b2⟩
        replace K7 := Lib.hid (K7.out.below b2 K7.out.lt)
        replace BB := Lib.hid (below3 BB.out b2)
        clear b2
        have q0 := K7.out.c0
        have q1 := K7.out.c1
        have f0 := K7.out.frozen 0
        have f1 := K7.out.frozen 1
        have HB := Lib.hid ((BB.out.setCell (p := ⟨w.heap.size + 1, 0, none⟩) (by simp <;> omega) (.slice none 0 0)).setCell (p := ⟨w.heap.size + 1, 1, none⟩) (by simp <;> omega) (.int .i64 0))
        go_wp2
        exact bodyPost_ret (v := .tuple #[.int .i64 0, .agg #[.slice none 0 0, .int .i64 0], .int .i64 1]) (by simp [results, Try.results14, go_sem, *]) rfl (trip_none HB.out)
    · rw [show luckPk bs N ts fs p = (0, [], 0, 1) from luckPk_1 (fun q => hok q.2.1)]
      have HC := Lib.hid (chkLn_no hok)
      clear hok
      obtain ⟨k3, k7, b0⟩ := lies2 w #[.slice A N c, .int .i64 p] #[.slice none 0 0, .int .i64 0] 24 24
      have HO := Lib.hid (ho.below b0)
      have r0 := k3.c0
      have r1 := k3.c1
      have K3 := Lib.hid k3
      have K7 := Lib.hid k7
      have HZ := Lib.hid k7.lt
      have BB := Lib.hid b0
      have HX := Lib.hid (hx.below b0)
      have HF := Lib.hid (hf.below b0)
      have LX := Lib.hid hx.1
      have LF := Lib.hid hf.1
      clear k3 k7 b0 ho hx hf
      go_enter Try.func14, Try.ntmps14
      go_wp2_with fail
      refine (rcheck_ok A N c p _ hp.1 hp.2).mono ?_
      rintro e1 w1 ⟨rfl, b1⟩
      clear r0 r1
      replace K3 := Lib.hid (K3.out.below b1 K3.out.lt)
      replace K7 := Lib.hid (K7.out.below b1 K7.out.lt)
      replace HO := Lib.hid (HO.out.below b1)
      replace HX := Lib.hid (HX.out.below b1)
      replace HF := Lib.hid (HF.out.below b1)
      replace BB := Lib.hid (below3 BB.out b1)
      clear b1
      go_wp2_with fail
      refine (rchk_tn B n d ts _ HX.out).mono ?_
      rw [HC.out]
      rintro e2 w2 ⟨rfl, b2⟩
      replace K7 := Lib.hid (K7.out.below b2 K7.out.lt)
      replace BB := Lib.hid (below3 BB.out b2)
      clear b2
      have q0 := K7.out.c0
      have q1 := K7.out.c1
      have f0 := K7.out.frozen 0
      have f1 := K7.out.frozen 1
      have HB := Lib.hid ((BB.out.setCell (p := ⟨w.heap.size + 1, 0, none⟩) (by simp <;> omega) (.slice none 0 0)).setCell (p := ⟨w.heap.size + 1, 1, none⟩) (by simp <;> omega) (.int .i64 0))
      go_wp2
      exact bodyPost_ret (v := .tuple #[.int .i64 0, .agg #[.slice none 0 0, .int .i64 0], .int .i64 1]) (by simp [results, Try.results14, go_sem, *]) rfl (trip_none HB.out)
  · rw [show luckPk bs N ts fs p = (0, [], 0, 1) from luckPk_1 (fun q => hp q.1)]
    obtain ⟨k3, k7, b0⟩ := lies2 w #[.slice A N c, .int .i64 p] #[.slice none 0 0, .int .i64 0] 24 24
    have HO := Lib.hid (ho.below b0)
    have r0 := k3.c0
    have r1 := k3.c1
    have K3 := Lib.hid k3
    have K7 := Lib.hid k7
    have HZ := Lib.hid k7.lt
    have BB := Lib.hid b0
    have HX := Lib.hid (hx.below b0)
    have HF := Lib.hid (hf.below b0)
    have LX := Lib.hid hx.1
    have LF := Lib.hid hf.1
    clear k3 k7 b0 ho hx hf
    go_enter Try.func14, Try.ntmps14
    go_wp2_with fail
    refine (rcheck_no A N c p _ (by omega) hN47).mono ?_
    rintro e1 w1 ⟨rfl, b1⟩
    clear r0 r1
    replace K7 := Lib.hid (K7.out.below b1 K7.out.lt)
    replace BB := Lib.hid (below3 BB.out b1)
    clear b1
    have q0 := K7.out.c0
    have q1 := K7.out.c1
    have f0 := K7.out.frozen 0
    have f1 := K7.out.frozen 1
    have HB := Lib.hid ((BB.out.setCell (p := ⟨w.heap.size + 1, 0, none⟩) (by simp <;> omega) (.slice none 0 0)).setCell (p := ⟨w.heap.size + 1, 1, none⟩) (by simp <;> omega) (.int .i64 0))
    go_wp2
    exact bodyPost_ret (v := .tuple #[.int .i64 0, .agg #[.slice none 0 0, .int .i64 0], .int .i64 1]) (by simp [results, Try.results14, go_sem, *]) rfl (trip_none HB.out)

set_option maxHeartbeats 400000 in
theorem sameInts_pk (A A' : Option Addr) (n c n' c' : Nat) (xs ys : List Int) (w : World) (hx : Ints w A n xs) (hy : Ints w A' n' ys) :
    Calls Try.prog 19 #[.slice A n c, .slice A' n' c'] w (RetB (.bool (sameB xs ys)) w) := by
  obtain ⟨lx, bx, _, cx⟩ := hx
  obtain ⟨ly, by_, _, cy⟩ := hy
  by_cases hn : n = n'
  · subst hn
    have CX := Lib.hid cx
    have CY := Lib.hid cy
    have LX := Lib.hid lx
    have LY := Lib.hid ly
    clear cx cy lx ly
    go_enter Try.func19, Try.ntmps19
    go_wp2
    go_loopw [13] (fun t wr => ∃ k : Nat, k ≤ n ∧ t = .int .i64 k ∧ (∃ d, wr = w.drewN d) ∧ Hid (∀ j, j < k → nth xs j = nth ys j)) (fun t _ => n - (intOf t).toNat)
    case atStart => exact ⟨0, Nat.zero_le _, rfl, ⟨0, rfl⟩, fun j hj => by omega⟩
    case round =>
      obtain ⟨k, hk, rfl, ⟨d, rfl⟩, hall⟩ := hrel
      by_cases hlt : k < n
      · obtain ⟨b, o, rfl, hb, hc⟩ := CX.out (by omega)
        obtain ⟨b', o', rfl, hb', hc'⟩ := CY.out (by omega)
        have c1 := hc k hlt
        have c2 := hc' k hlt
        clear hc hc'
        by_cases he : nth xs k = nth ys k
        · have hs : (nth xs k != nth ys k) = false := by rw [he]; simp
          go_wp2
          go_quiet (fail)
          go_wp2
          go_roundw
          case rel => exact ⟨k + 1, by omega, by go_num, ⟨_, rfl⟩, fun j hj => by rcases Nat.lt_or_ge j k with h | h; exact hall j h; rwa [show j = k from by omega]⟩
          case measure => simp [intOf]; omega
        · have hs : (nth xs k != nth ys k) = true := by simpa using he
          have HF := Lib.hid (sameB_at k he)
          clear he
          go_wp2
          go_quiet (fail)
          go_wp2
          go_ret
          exact RetB.of (ret_bool HF.out.symm) (below_drewN (below_drewN (Below.refl _ _) d) _)
      · have : k = n := by omega
        subst this
        have HF := Lib.hid (sameB_all LX.out LY.out hall)
        go_wp2
        go_ret
        exact RetB.of (ret_bool HF.out.symm) (below_drewN (Below.refl _ _) d)
  · have hne : ((n : Int) != (n' : Int)) = true := by simp; omega
    have hf : sameB xs ys = false := sameB_len (by omega)
    have HF := Lib.hid hf
    clear hf lx ly
    go_enter Try.func19, Try.ntmps19
    go_wp2
    go_ret
    exact RetB.of (ret_bool HF.out.symm) (Below.refl _ _)

theorem ints2_pk {w : World} {g : Nat} {t : TypeId} {y z : Int} (h : Bk w g t #[.int .i64 y, .int .i64 z]) (hy : Fit y) (hz : Fit z) : Ints w (some ⟨g, 0, none⟩) 2 [y, z] := by
  refine ⟨rfl, by omega, by simp [hy, hz], fun _ => ⟨g, 0, rfl, h.lt, fun j hj => ?_⟩⟩
  rw [Nat.zero_add, h.cell]
  match j, hj with
  | 0, _ => rfl
  | 1, _ => rfl

set_option maxHeartbeats 4000000 in
theorem live16_any (w : World) :
    Calls Try.prog 8 #[] w (RetB (.bool true) w) := by
  have HV : Hid (vicPk [] 0 0 3 0 = ([1, 2], [], 0, 0)) := Lib.hid (by decide)
  have HA : Hid (halfPk 5 = (3, 0)) := Lib.hid (by decide)
  have HS : Hid (spillPk 5 = (2, 0)) := Lib.hid (by decide)
  have HQ : Hid (sameB [1, 2] [1, 2] = true) := Lib.hid (by decide)
  go_enter Try.func8, Try.ntmps8
  go_wp2_with fail
  refine (vic_any none 0 0 0 3 0 [] _ (Octs.nil_ _ _)).mono ?_
  rw [HV.out]
  rintro e w1 ⟨A2, c2, B2, d2, rfl, o2, -, b1⟩
  have OV := Lib.hid (o2.ints)
  have BB := Lib.hid b1
  clear o2 b1
  have ba := (Below.refl w1.heap.size w1).alloc (Nat.le_refl _) (.cells #[.slice A2 0 c2, .int .i64 0] 24)
  replace OV := Lib.hid (OV.out.below ba)
  replace BB := Lib.hid (below3 BB.out ba)
  obtain ⟨W, hW⟩ : ∃ W, w1.alloc (.cells #[.slice A2 0 c2, .int .i64 0] 24) = W := ⟨_, rfl⟩
  rw [hW] at OV BB
  have HW := Lib.hid hW
  clear hW ba
  go_upto_region 2 with fail
  rw [HW.out]
  clear HW
  go_wp2_with fail
  refine (half_pk 5 _ (by unfold Fit; omega)).mono ?_
  rw [HA.out]
  rintro e w2 ⟨rfl, b2⟩
  replace OV := Lib.hid (OV.out.below b2)
  replace BB := Lib.hid (below3 BB.out b2)
  clear b2
  go_wp2_with fail
  refine (spill_pk 5 _ (by unfold Fit; omega)).mono ?_
  rw [HS.out]
  rintro e w3 ⟨rfl, b2⟩
  replace OV := Lib.hid (OV.out.below b2)
  replace BB := Lib.hid (below3 BB.out b2)
  clear b2
  have kb := Bk.new w3 3 #[.int .i64 1, .int .i64 2]
  have ba := (Below.refl w3.heap.size w3).alloc (Nat.le_refl _) (.cells #[.int .i64 1, .int .i64 2] 3)
  have HT := Lib.hid (ints2_pk kb (by unfold Fit; omega) (by unfold Fit; omega))
  replace OV := Lib.hid (OV.out.below ba)
  replace BB := Lib.hid (below3 BB.out ba)
  clear kb ba
  go_wp2_with fail
  refine (sameInts_pk B2 _ 2 d2 2 2 [1, 2] [1, 2] _ OV.out HT.out).mono ?_
  rw [HQ.out]
  rintro e w4 ⟨rfl, b2⟩
  replace BB := Lib.hid (below3 BB.out b2)
  clear b2
  go_wp2
  go_ret
  exact ⟨rfl, BB.out⟩

end Go.Proofs.Ytljfinfjchkphaa

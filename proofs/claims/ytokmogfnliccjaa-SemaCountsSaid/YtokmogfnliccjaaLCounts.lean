/-
  The law SemaCounts: whatever is taken, given, and dropped: the walk.
-/
import Derived.Test.YtokmogfnliccjaaCs
namespace Go.Proofs.Ytokmogfnliccjaa
open Go.RowKit

theorem OwnQ.intsN {E : TypeId} {w : World} {base : Nat} {A : Option Addr} {c n : Nat} {zs : List Int} (h : OwnQ E w base A c zs) (hl : zs.length = n) : Ints w A n zs := hl ▸ h.ints

set_option maxRecDepth 100000 in
set_option maxHeartbeats 16000000 in
theorem lcounts_any (m : Int) (A : Option Addr) (n c : Nat) (p : List O2) (w : World) (fm : Fit m) (hx : Ops10 w A n c p) :
    Calls Try.prog 4 #[.int .i64 m, .slice A n c] w (TrueAns w) := by
  by_cases hb : 150 < n ∨ 800 < m
  · have tests : 150 < n ∨ (¬ 150 < n ∧ decide (800 < m) = true) := by
      by_cases h0 : 150 < n
      · exact .inl h0
      · exact .inr ⟨h0, decide_eq_true (by omega)⟩
    clear hb hx fm
    rcases tests with t0 | ⟨t0, t1⟩
    all_goals
      go_enter Try.func4, Try.ntmps4
      go_wp2_with fail
      refine (live_any _).mono ?_
      rintro e w1 ⟨rfl, b⟩
      have BB := Lib.hid b
      clear b
      go_wp2_with fail
      go_ret
      exact ⟨rfl, BB.out⟩
  · have hn1 : n ≤ 150 := by omega
    have t8 : decide (800 < m) = false := decide_eq_false (by omega)
    have t5 : decide (150 < (n : Int)) = false := decide_eq_false (by omega)
    by_cases hm0 : m < 0
    · have HNEW := Lib.hid (show newR m = (1, 0, []) by unfold newR; rw [if_neg (by omega)])
      have t9 : decide (m < 0) = true := decide_eq_true hm0
      have FM := Lib.hid fm
      clear hb hm0 hx fm
      go_enter Try.func4, Try.ntmps4
      go_wp2_with fail
      refine (live_any _).mono ?_
      rintro e w1 ⟨rfl, b⟩
      have BB := Lib.hid b
      clear b
      go_wp2_with fail
      refine (pnewC_any m _ FM.out).mono ?_
      rw [HNEW.out]
      rintro e w2 ⟨A2, c2, rfl, o, b⟩
      dsimp only at o ⊢
      simp only [List.length_nil]
      replace BB := Lib.hid (below3 BB.out b)
      clear b
      have ba := (Below.refl w2.heap.size w2).alloc (Nat.le_refl _) (.cells #[.int .i64 0, .slice A2 0 c2] 24)
      have ka := Bk.new w2 24 #[.int .i64 0, .slice A2 0 c2]
      have sa := SemW.own (z := 0) (o.below ba) fit0 rfl
      have nbb := below3 BB.out ba
      obtain ⟨g6, hg6⟩ : ∃ g, w2.heap.size = g := ⟨_, rfl⟩
      have hgb := BB.out.size
      obtain ⟨V2, hV2⟩ : ∃ V, w2.alloc (.cells #[.int .i64 0, .slice A2 0 c2] 24) = V := ⟨_, rfl⟩
      rw [hV2] at ka sa nbb
      rw [hg6] at ka hgb
      have HV2 := Lib.hid hV2
      have Hg6 := Lib.hid hg6
      have HBg6 := Lib.hid hgb
      have S1 := Lib.hid (SV.mk ka sa)
      replace BB := Lib.hid nbb
      clear ba ka sa nbb hgb hg6 hV2
      go_upto_region 7 with fail
      rw [HV2.out]
      try rw [Hg6.out]
      clear HV2 Hg6
      clear o
      go_wp2_with fail
      go_ret
      exact ⟨rfl, BB.out⟩
    · obtain ⟨nn, rfl⟩ : ∃ nn : Nat, m = (nn : Int) := ⟨m.toNat, by omega⟩
      have hnn : nn ≤ 800 := by omega
      have HX := Lib.hid hx
      have LX := Lib.hid hx.1
      have HNEW := Lib.hid (show newR (nn : Int) = (0, (nn : Int), []) by unfold newR; rw [if_pos (by omega)])
      have FM := Lib.hid fm
      have hnc := hx.2.1
      clear hb hm0 hx fm
      go_enter Try.func4, Try.ntmps4
      go_wp2_with fail
      refine (live_any _).mono ?_
      rintro e w1 ⟨rfl, b⟩
      have BB := Lib.hid b
      clear b
      go_wp2_with fail
      refine (pnewC_any (nn : Int) _ FM.out).mono ?_
      rw [HNEW.out]
      rintro e w2 ⟨A2, c2, rfl, o, b⟩
      dsimp only at o ⊢
      simp only [List.length_nil]
      replace BB := Lib.hid (below3 BB.out b)
      clear b
      have ba := (Below.refl w2.heap.size w2).alloc (Nat.le_refl _) (.cells #[.int .i64 (nn : Int), .slice A2 0 c2] 24)
      have ka := Bk.new w2 24 #[.int .i64 (nn : Int), .slice A2 0 c2]
      have sa := SemW.own (z := (nn : Int)) (o.below ba) FM.out rfl
      have nbb := below3 BB.out ba
      obtain ⟨g6, hg6⟩ : ∃ g, w2.heap.size = g := ⟨_, rfl⟩
      have hgb := BB.out.size
      obtain ⟨V2, hV2⟩ : ∃ V, w2.alloc (.cells #[.int .i64 (nn : Int), .slice A2 0 c2] 24) = V := ⟨_, rfl⟩
      rw [hV2] at ka sa nbb
      rw [hg6] at ka hgb
      have HV2 := Lib.hid hV2
      have Hg6 := Lib.hid hg6
      have HBg6 := Lib.hid hgb
      have S1 := Lib.hid (SV.mk ka sa)
      replace BB := Lib.hid nbb
      clear ba ka sa nbb hgb hg6 hV2
      go_upto_region 7 with fail
      rw [HV2.out]
      try rw [Hg6.out]
      clear HV2 Hg6
      clear o
      have ST0 : Hid (StC w.heap.size V2 g6 (nn : Int) A2 0 c2 [] none 0 0 []) := Lib.hid ⟨S1.out, OwnQ.nil_ _ _ _, rfl, fun h => absurd h (Nat.lt_irrefl 0), HBg6.out⟩
      clear S1
      go_wp2_with fail
      go_loopw [8, 9, 10, 51] (fun u8 u9 u10 t wr => ∃ k : Nat, k ≤ n ∧ t = .int .i64 k ∧ ∃ (gv gn : Nat) (zk : Int) (As : Option Addr) (q cs : Nat) (Al : Option Addr) (cl : Nat) (ll : List Int), u9 = .int .i64 gv ∧ u10 = .int .i64 gn ∧ u8 = .slice Al q cl ∧ gv ≤ k ∧ gn ≤ 1000 ∧ Hid (StC w.heap.size wr g6 zk As q cs ll Al q cl ll) ∧ Hid (semOk zk ll) ∧ Hid (zk = (nn : Int) + gv - gn ∧ q ≤ k) ∧ Hid (Below w.heap.size w wr)) (fun _ _ _ t _ => n - (intOf t).toNat)
      case atStart => exact ⟨0, Nat.zero_le _, rfl, 0, 0, (nn : Int), A2, 0, c2, none, 0, [], rfl, rfl, rfl, by omega, by omega, ST0, Lib.hid (ok_one _ (by omega)), Lib.hid (by omega), BB⟩
      case round =>
        clear ST0 BB
        rename World => wr
        obtain ⟨k, hk, rfl, gv, gn, zk, As, q, cs, Al, cl, ll, rfl, rfl, rfl, hgv, hgn, ST, OK, HZ, BB⟩ := hrel
        by_cases hkn : k < n
        · obtain ⟨bI, oI, eI, hbI, c0, c1, hfo⟩ := (HX.out.below BB.out).at_ hkn
          subst eI
          obtain ⟨⟨kk, y⟩, hxx⟩ : ∃ x, oth p k = x := ⟨_, rfl⟩
          rw [hxx] at c0 c1 hfo
          dsimp only at c0 c1
          have FY : Hid (Fit y) := Lib.hid hfo.2
          have ba := (Below.refl wr.heap.size wr).alloc (Nat.le_refl _) (.cells #[.int .i64 kk, .int .i64 y] 40)
          have ka := Bk.new wr 40 #[.int .i64 kk, .int .i64 y]
          have ns := ST.out.below ba
          have nbb := below3 BB.out ba
          have hgx := ST.out.s.k.lt
          obtain ⟨g12, hg12⟩ : ∃ g, wr.heap.size = g := ⟨_, rfl⟩
          obtain ⟨V12, hV12⟩ : ∃ V, wr.alloc (.cells #[.int .i64 kk, .int .i64 y] 40) = V := ⟨_, rfl⟩
          rw [hV12] at ka ns nbb
          rw [hg12] at ka hgx
          have HV12 := Lib.hid hV12
          have HG12 := Lib.hid hg12
          have HGX : Hid (g12 ≠ g6) := Lib.hid (by omega)
          have OX := Lib.hid (OB.mk ka)
          replace ST := Lib.hid ns
          replace BB := Lib.hid nbb
          clear ba ka ns nbb hgx hg12 hV12 hxx hfo
          go_upto_region 15 with fail
          rw [HV12.out]
          try rw [HG12.out]
          clear HV12 HG12 c0 c1 hbI
          rcases kinds3 kk with hk0 | hk1 | ⟨tk0, tk1⟩
          · have hkd : kk.tmod 3 = 0 := hk0
            clear hk0
            rcases take_ways OK.out y with ⟨e1, he, hr, hw, -, -⟩ | ⟨hr, h0, hz, hl⟩ | ⟨hr, h0, hm, hz, hl⟩
            · as_aux_lemma =>
                have te : (e1 == 0) = false := by simpa using he
                have ten : (e1 != 0) = true := by simpa using he
                have HR := Lib.hid hr
                have HW := Lib.hid hw
                have HZN : Hid (zk = (nn : Int) + gv - gn ∧ q ≤ k + 1) := Lib.hid (by have := HZ.out; omega)
                clear he hr hw
                have a00 := ST.out.s.k.c0
                have a10 := ST.out.s.k.c1
                have lg0 := ST.out.s.k.lt
                have a07 := OX.out.k.c0
                have a17 := OX.out.k.c1
                have lg7 := OX.out.k.lt
                have HLT := Lib.hid ST.out.s.k.lt
                go_wp2_with fail
                refine (ptakeC_any zk As q cs ll y _ ST.out.s.s FY.out).mono ?_
                rw [HR.out]
                rintro e w3 ⟨A3, c3, rfl, o, b⟩
                dsimp only at o ⊢
                have HAW := Lib.hid (o.away HLT.out)
                have HAP := Lib.hid (ST.out.apart o)
                clear a00 a10 lg0
                clear a07 a17 lg7
                replace ST := Lib.hid (ST.out.below b)
                replace OX := Lib.hid (OX.out.below b)
                replace BB := Lib.hid (below3 BB.out b)
                clear b
                have ba := (Below.refl w3.heap.size w3).alloc (Nat.le_refl _) (.cells #[.int .i64 0, .slice A3 0 c3] 24)
                have ka := Bk.new w3 24 #[.int .i64 0, .slice A3 0 c3]
                have sa := SemW.own (z := 0) (o.below ba) fit0 rfl
                have nST := ST.out.below ba
                have nOX := OX.out.below ba
                have nbb := below3 BB.out ba
                obtain ⟨g14, hg14⟩ : ∃ g, w3.heap.size = g := ⟨_, rfl⟩
                have hgb := BB.out.size
                obtain ⟨V3, hV3⟩ : ∃ V, w3.alloc (.cells #[.int .i64 0, .slice A3 0 c3] 24) = V := ⟨_, rfl⟩
                rw [hV3] at ka sa nbb nST nOX
                rw [hg14] at ka hgb
                have HV3 := Lib.hid hV3
                have Hg14 := Lib.hid hg14
                have HBg14 := Lib.hid hgb
                have S3 := Lib.hid (SV.mk ka sa)
                replace ST := Lib.hid nST
                replace OX := Lib.hid nOX
                replace BB := Lib.hid nbb
                clear ba ka sa nbb hgb hg14 hV3 nST nOX
                go_upto_region 24 with fail
                rw [HV3.out]
                try rw [Hg14.out]
                clear HV3 Hg14
                clear o
                by_cases h0 : y < 0
                · have t0 : decide (y < 0) = true := decide_eq_true h0
                  clear h0
                  have a07 := OX.out.k.c0
                  have a17 := OX.out.k.c1
                  have lg7 := OX.out.k.lt
                  go_wp2_with fail
                  go_roundw
                  case rel => exact ⟨k + 1, by omega, by go_num, gv, gn, zk, As, q, cs, Al, cl, ll, rfl, rfl, rfl, by omega, hgn, ST, OK, HZN, BB⟩
                  case measure => simp [intOf]; omega
                · have t0 : decide (y < 0) = false := decide_eq_false h0
                  have hm : y ∈ ll := by
                    rcases HW.out with h | h | h
                    · exact absurd h h0
                    · exact h
                    · have := HZ.out; have := ST.out.lm; omega
                  have HM := Lib.hid (hasB_yes hm)
                  clear h0 hm
                  have a07 := OX.out.k.c0
                  have a17 := OX.out.k.c1
                  have lg7 := OX.out.k.lt
                  go_wp2_with fail
                  refine (rhas_any Al q cl ll y _ (ST.out.l.intsN ST.out.lm)).mono ?_
                  rw [HM.out]
                  rintro e w4 ⟨rfl, b⟩
                  clear a07 a17 lg7
                  replace ST := Lib.hid (ST.out.below b)
                  replace OX := Lib.hid (OX.out.below b)
                  replace S3 := Lib.hid (S3.out.below b)
                  replace BB := Lib.hid (below3 BB.out b)
                  clear b
                  go_wp2_with fail
                  go_roundw
                  case rel => exact ⟨k + 1, by omega, by go_num, gv, gn, zk, As, q, cs, Al, cl, ll, rfl, rfl, rfl, by omega, hgn, ST, OK, HZN, BB⟩
                  case measure => simp [intOf]; omega
            · as_aux_lemma =>
                subst hl
                obtain rfl : q = 0 := ST.out.lm.symm
                obtain ⟨zz, hzz⟩ : ∃ zz, zk - 1 = zz := ⟨_, rfl⟩
                have OKN := Lib.hid (ok_take hz OK.out)
                rw [hzz] at hr OKN
                have HR := Lib.hid hr
                have FZZ : Hid (Fit zz) := Lib.hid (by unfold Fit; have := HZ.out; omega)
                have HZN : Hid (zz = (nn : Int) + (gv : Nat) - ((gn + 1 : Nat) : Int) ∧ 0 ≤ k + 1) := Lib.hid (by have := HZ.out; omega)
                have t0 : decide (y < 0) = false := decide_eq_false (by omega)
                have HM := Lib.hid (hasB_no (l := []) (x := y) (by simp))
                have tg : decide (gn < nn + gv) = true := decide_eq_true (by have := HZ.out; omega)
                have tg2 : decide ((gn : Int) < (nn : Int) + (gv : Int)) = true := decide_eq_true (by have := HZ.out; omega)
                have hgn1 : gn + 1 ≤ 1000 := by have := HZ.out; omega
                clear hr h0 hz hzz
                have a00 := ST.out.s.k.c0
                have a10 := ST.out.s.k.c1
                have lg0 := ST.out.s.k.lt
                have a07 := OX.out.k.c0
                have a17 := OX.out.k.c1
                have lg7 := OX.out.k.lt
                have HLT := Lib.hid ST.out.s.k.lt
                go_wp2_with fail
                refine (ptakeC_any zk As 0 cs [] y _ ST.out.s.s FY.out).mono ?_
                rw [HR.out]
                rintro e w3 ⟨A3, c3, rfl, o, b⟩
                dsimp only at o ⊢
                have HAW := Lib.hid (o.away HLT.out)
                have HAP := Lib.hid (ST.out.apart o)
                clear a00 a10 lg0
                clear a07 a17 lg7
                replace ST := Lib.hid (ST.out.below b)
                replace OX := Lib.hid (OX.out.below b)
                replace BB := Lib.hid (below3 BB.out b)
                clear b
                have ba := (Below.refl w3.heap.size w3).alloc (Nat.le_refl _) (.cells #[.int .i64 zz, .slice A3 0 c3] 24)
                have ka := Bk.new w3 24 #[.int .i64 zz, .slice A3 0 c3]
                have sa := SemW.own (z := zz) (o.below ba) FZZ.out rfl
                have nST := ST.out.below ba
                have nOX := OX.out.below ba
                have nbb := below3 BB.out ba
                obtain ⟨g14, hg14⟩ : ∃ g, w3.heap.size = g := ⟨_, rfl⟩
                have hgb := BB.out.size
                obtain ⟨V3, hV3⟩ : ∃ V, w3.alloc (.cells #[.int .i64 zz, .slice A3 0 c3] 24) = V := ⟨_, rfl⟩
                rw [hV3] at ka sa nbb nST nOX
                rw [hg14] at ka hgb
                have HV3 := Lib.hid hV3
                have Hg14 := Lib.hid hg14
                have HBg14 := Lib.hid hgb
                have S3 := Lib.hid (SV.mk ka sa)
                replace ST := Lib.hid nST
                replace OX := Lib.hid nOX
                replace BB := Lib.hid nbb
                clear ba ka sa nbb hgb hg14 hV3 nST nOX
                go_upto_region 24 with fail
                rw [HV3.out]
                try rw [Hg14.out]
                clear HV3 Hg14
                clear o
                have a07 := OX.out.k.c0
                have a17 := OX.out.k.c1
                have lg7 := OX.out.k.lt
                go_wp2_with fail
                refine (rhas_any Al 0 cl [] y _ (ST.out.l.intsN ST.out.lm)).mono ?_
                rw [HM.out]
                rintro e W4w ⟨rfl, b⟩
                clear a07 a17 lg7
                replace ST := Lib.hid (ST.out.below b)
                replace OX := Lib.hid (OX.out.below b)
                replace S3 := Lib.hid (S3.out.below b)
                replace BB := Lib.hid (below3 BB.out b)
                clear b
                have a00 := ST.out.s.k.c0
                have a10 := ST.out.s.k.c1
                have lg0 := ST.out.s.k.lt
                have a03 := S3.out.k.c0
                have a13 := S3.out.k.c1
                have lg3 := S3.out.k.lt
                have f0 := ST.out.s.k.frozen 0
                have f1 := ST.out.s.k.frozen 1
                have sn := ST.out.put S3.out.s (fun b o e hm => HAW.out b o e (by rw [show ([] : List Int).length = 0 from rfl]; exact hm)) (fun _ b o e => HAP.out b o e)
                have nbb := below_set2 (g := g6) BB.out ST.out.g (.int .i64 zz) (.slice A3 0 c3)
                have ox := (show OB ((W4w.setCell ⟨g6, 0, none⟩ (.int .i64 zz)).setCell ⟨g6, 1, none⟩ (.slice A3 0 c3)) g12 kk y from ⟨(OX.out.k.far (p := ⟨g6, 0, none⟩) HGX.out _).far (p := ⟨g6, 1, none⟩) HGX.out _⟩)
                obtain ⟨W5, hW⟩ : ∃ W, (W4w.setCell ⟨g6, 0, none⟩ (.int .i64 zz)).setCell ⟨g6, 1, none⟩ (.slice A3 0 c3) = W := ⟨_, rfl⟩
                rw [hW] at sn nbb ox
                have HW := Lib.hid hW
                replace ST := Lib.hid sn
                replace BB := Lib.hid nbb
                replace OX := Lib.hid ox
                clear sn nbb ox hW S3
                go_upto_region 29 with fail
                rw [HW.out]
                clear HW f0 f1
                clear a00 a10 lg0
                clear a03 a13 lg3
                have tz : (zz != (nn : Int) + (gv : Int) - ((gn : Int) + 1)) = false := by have := HZN.out; simp <;> omega
                have a00 := ST.out.s.k.c0
                have a10 := ST.out.s.k.c1
                have lg0 := ST.out.s.k.lt
                go_wp2_with fail
                refine (rsame01_any A3 Al 0 c3 0 cl [] [] _ ST.out.s.s.x (ST.out.l.intsN ST.out.lm)).mono ?_
                rw [sameB_refl]
                rintro e w7 ⟨rfl, b⟩
                clear a00 a10 lg0
                replace ST := Lib.hid (ST.out.below b)
                replace BB := Lib.hid (below3 BB.out b)
                clear b
                have a00 := ST.out.s.k.c0
                have a10 := ST.out.s.k.c1
                have lg0 := ST.out.s.k.lt
                go_wp2_with fail
                refine (pcheck_any zz A3 0 c3 [] _ ST.out.s.s).mono ?_
                rw [if_pos OKN.out]
                rintro e w8 ⟨rfl, b⟩
                clear a00 a10 lg0
                replace ST := Lib.hid (ST.out.below b)
                replace BB := Lib.hid (below3 BB.out b)
                clear b
                clear tz
                go_wp2_with fail
                go_roundw
                case rel => exact ⟨k + 1, by omega, by go_num, gv, (gn + 1), zz, A3, 0, c3, Al, cl, [], by go_num, by go_num, rfl, by omega, by have := HZN.out; omega, ST, OKN, HZN, BB⟩
                case measure => simp [intOf]; omega
            · as_aux_lemma =>
                subst hz
                have OKN := Lib.hid (ok_wait OK.out h0 hm hl)
                have HR := Lib.hid hr
                have HL := Lib.hid (show (ll ++ [y]).length = q + 1 by rw [List.length_append, ST.out.lm]; rfl)
                have HLL := Lib.hid ST.out.lm
                have HZN : Hid ((0 : Int) = (nn : Int) + gv - gn ∧ q + 1 ≤ k + 1) := Lib.hid (by have := HZ.out; omega)
                have t0 : decide (y < 0) = false := decide_eq_false (by omega)
                have HM := Lib.hid (hasB_no hm)
                have tg : decide (gn < nn + gv) = false := decide_eq_false (by have := HZ.out; omega)
                have tg2 : decide ((gn : Int) < (nn : Int) + (gv : Int)) = false := decide_eq_false (by have := HZ.out; omega)
                have hqk : q ≤ 150 := by have := HZ.out; omega
                clear hr h0 hm hl
                have a00 := ST.out.s.k.c0
                have a10 := ST.out.s.k.c1
                have lg0 := ST.out.s.k.lt
                have a07 := OX.out.k.c0
                have a17 := OX.out.k.c1
                have lg7 := OX.out.k.lt
                have HLT := Lib.hid ST.out.s.k.lt
                go_wp2_with fail
                refine (ptakeC_any 0 As q cs ll y _ ST.out.s.s FY.out).mono ?_
                rw [HR.out]
                rintro e w3 ⟨A3, c3, rfl, o, b⟩
                dsimp only at o ⊢
                rw [HL.out]
                have HAW := Lib.hid (o.away HLT.out)
                have HAP := Lib.hid (ST.out.apart o)
                clear a00 a10 lg0
                clear a07 a17 lg7
                replace ST := Lib.hid (ST.out.below b)
                replace OX := Lib.hid (OX.out.below b)
                replace BB := Lib.hid (below3 BB.out b)
                clear b
                have ba := (Below.refl w3.heap.size w3).alloc (Nat.le_refl _) (.cells #[.int .i64 0, .slice A3 (q + 1) c3] 24)
                have ka := Bk.new w3 24 #[.int .i64 0, .slice A3 (q + 1) c3]
                have sa := SemW.own (z := 0) (o.below ba) fit0 HL.out
                have nST := ST.out.below ba
                have nOX := OX.out.below ba
                have nbb := below3 BB.out ba
                obtain ⟨g14, hg14⟩ : ∃ g, w3.heap.size = g := ⟨_, rfl⟩
                have hgb := BB.out.size
                obtain ⟨V3, hV3⟩ : ∃ V, w3.alloc (.cells #[.int .i64 0, .slice A3 (q + 1) c3] 24) = V := ⟨_, rfl⟩
                rw [hV3] at ka sa nbb nST nOX
                rw [hg14] at ka hgb
                have HV3 := Lib.hid hV3
                have Hg14 := Lib.hid hg14
                have HBg14 := Lib.hid hgb
                have S3 := Lib.hid (SV.mk ka sa)
                replace ST := Lib.hid nST
                replace OX := Lib.hid nOX
                replace BB := Lib.hid nbb
                clear ba ka sa nbb hgb hg14 hV3 nST nOX
                go_upto_region 24 with fail
                rw [HV3.out]
                try rw [Hg14.out]
                clear HV3 Hg14
                clear o
                have a07 := OX.out.k.c0
                have a17 := OX.out.k.c1
                have lg7 := OX.out.k.lt
                go_wp2_with fail
                refine (rhas_any Al q cl ll y _ (ST.out.l.intsN ST.out.lm)).mono ?_
                rw [HM.out]
                rintro e W4w ⟨rfl, b⟩
                clear a07 a17 lg7
                replace ST := Lib.hid (ST.out.below b)
                replace OX := Lib.hid (OX.out.below b)
                replace S3 := Lib.hid (S3.out.below b)
                replace BB := Lib.hid (below3 BB.out b)
                clear b
                have a00 := ST.out.s.k.c0
                have a10 := ST.out.s.k.c1
                have lg0 := ST.out.s.k.lt
                have a03 := S3.out.k.c0
                have a13 := S3.out.k.c1
                have lg3 := S3.out.k.lt
                have f0 := ST.out.s.k.frozen 0
                have f1 := ST.out.s.k.frozen 1
                have sn := ST.out.put S3.out.s (fun b o e hm => HAW.out b o e (by rw [HL.out]; exact hm)) (fun _ b o e => HAP.out b o e)
                have nbb := below_set2 (g := g6) BB.out ST.out.g (.int .i64 0) (.slice A3 (q + 1) c3)
                have ox := (show OB ((W4w.setCell ⟨g6, 0, none⟩ (.int .i64 0)).setCell ⟨g6, 1, none⟩ (.slice A3 (q + 1) c3)) g12 kk y from ⟨(OX.out.k.far (p := ⟨g6, 0, none⟩) HGX.out _).far (p := ⟨g6, 1, none⟩) HGX.out _⟩)
                obtain ⟨W5, hW⟩ : ∃ W, (W4w.setCell ⟨g6, 0, none⟩ (.int .i64 0)).setCell ⟨g6, 1, none⟩ (.slice A3 (q + 1) c3) = W := ⟨_, rfl⟩
                rw [hW] at sn nbb ox
                have HW := Lib.hid hW
                replace ST := Lib.hid sn
                replace BB := Lib.hid nbb
                replace OX := Lib.hid ox
                clear sn nbb ox hW S3
                go_upto_region 29 with fail
                rw [HW.out]
                clear HW f0 f1
                clear a00 a10 lg0
                clear a03 a13 lg3
                have B1 := (Below.refl W5.heap.size W5).alloc (Nat.le_refl _) (.cells #[.int .i64 y] 2)
                have TA := Lib.hid (ints1 W5 2 FY.out)
                have SA := Lib.hid (ST.out.below B1)
                have BA := Lib.hid (below3 BB.out B1)
                have HBW := Lib.hid BB.out.size
                clear B1 ST BB
                have a07 := OX.out.k.c0
                have a17 := OX.out.k.c1
                have lg7 := OX.out.k.lt
                go_upto_region 31 with fail
                go_wp2_with (at_builtin; go_loud (refine wpList_append_que _ rfl _ _ 22 rfl 2 Try.underlying22 infoI8 w.heap.size Al cl ll q HLL.out.symm rfl SA.out.l (some ⟨W5.heap.size, 0, none⟩) 1 1 [y] rfl TA.out (by rw [HLL.out]; omega) (by have := HBW.out; simp; omega) ?_; intro A8 c8 w6 ho hgr hkk; have ST := Lib.hid (SA.out.app ho hgr hkk); have BB := Lib.hid (BA.out.grown hgr BA.out.size (by intro k' hk'; exact (SA.out.l.block k' hk').1)); clear ho hgr hkk SA BA TA a07 a17 lg7; rw [HL.out]; have tz : ((0 : Int) != (nn : Int) + (gv : Int) - (gn : Int)) = false := (by have := HZN.out; simp <;> omega); have a00 := ST.out.s.k.c0; have a10 := ST.out.s.k.c1; have lg0 := ST.out.s.k.lt))
                refine (rsame01_any A3 A8 (q + 1) c3 (q + 1) c8 (ll ++ [y]) (ll ++ [y]) _ ST.out.s.s.x (ST.out.l.intsN ST.out.lm)).mono ?_
                rw [sameB_refl]
                rintro e w7 ⟨rfl, b⟩
                clear a00 a10 lg0
                replace ST := Lib.hid (ST.out.below b)
                replace BB := Lib.hid (below3 BB.out b)
                clear b
                have a00 := ST.out.s.k.c0
                have a10 := ST.out.s.k.c1
                have lg0 := ST.out.s.k.lt
                go_wp2_with fail
                refine (pcheck_any 0 A3 (q + 1) c3 (ll ++ [y]) _ ST.out.s.s).mono ?_
                rw [if_pos OKN.out]
                rintro e w8 ⟨rfl, b⟩
                clear a00 a10 lg0
                replace ST := Lib.hid (ST.out.below b)
                replace BB := Lib.hid (below3 BB.out b)
                clear b
                clear tz
                go_wp2_with fail
                go_roundw
                case rel => exact ⟨k + 1, by omega, by go_num, gv, gn, 0, A3, (q + 1), c3, A8, c8, (ll ++ [y]), by go_num, by go_num, rfl, by omega, by have := HZN.out; omega, ST, OKN, HZN, BB⟩
                case measure => simp [intOf]; omega
          · have hkd : kk.tmod 3 = 1 := hk1
            clear hk1
            by_cases hq0 : 0 < q
            · as_aux_lemma =>
                obtain rfl : zk = 0 := by have := OK.out.1; have := OK.out.2.2.2.1; have := ST.out.lm; omega
                obtain ⟨x0, hx0⟩ : ∃ x0, nth ll 0 = x0 := ⟨_, rfl⟩
                have hr := give_first OK.out (by rw [ST.out.lm]; exact hq0)
                rw [hx0] at hr
                have HR := Lib.hid hr
                have HX0 := Lib.hid hx0
                have OKN := Lib.hid (ok_drop OK.out 1)
                have HL := Lib.hid (show (ll.drop 1).length = q - 1 by rw [List.length_drop, ST.out.lm])
                have HZN : Hid ((0 : Int) = (nn : Int) + ((gv + 1 : Nat) : Int) - ((gn + 1 : Nat) : Int) ∧ q - 1 ≤ k + 1) := Lib.hid (by have := HZ.out; omega)
                have tx : (x0 != x0) = false := by simp
                have hgn1 : gn + 1 ≤ 1000 := by have := HZ.out; omega
                clear hr hx0
                have a00 := ST.out.s.k.c0
                have a10 := ST.out.s.k.c1
                have lg0 := ST.out.s.k.lt
                have a07 := OX.out.k.c0
                have a17 := OX.out.k.c1
                have lg7 := OX.out.k.lt
                have HLT := Lib.hid ST.out.s.k.lt
                go_wp2_with fail
                refine (pgiveC_any 0 As q cs ll _ ST.out.s.s).mono ?_
                rw [HR.out]
                rintro e w3 ⟨A3, c3, rfl, o, b⟩
                dsimp only at o ⊢
                rw [HL.out]
                have HAW := Lib.hid (o.away HLT.out)
                have HAP := Lib.hid (ST.out.apart o)
                clear a00 a10 lg0
                clear a07 a17 lg7
                replace ST := Lib.hid (ST.out.below b)
                replace OX := Lib.hid (OX.out.below b)
                replace BB := Lib.hid (below3 BB.out b)
                clear b
                have ba := (Below.refl w3.heap.size w3).alloc (Nat.le_refl _) (.cells #[.int .i64 0, .slice A3 (q - 1) c3] 24)
                have ka := Bk.new w3 24 #[.int .i64 0, .slice A3 (q - 1) c3]
                have sa := SemW.own (z := 0) (o.below ba) fit0 HL.out
                have nST := ST.out.below ba
                have nOX := OX.out.below ba
                have nbb := below3 BB.out ba
                obtain ⟨g18, hg18⟩ : ∃ g, w3.heap.size = g := ⟨_, rfl⟩
                have hgb := BB.out.size
                obtain ⟨V3, hV3⟩ : ∃ V, w3.alloc (.cells #[.int .i64 0, .slice A3 (q - 1) c3] 24) = V := ⟨_, rfl⟩
                rw [hV3] at ka sa nbb nST nOX
                rw [hg18] at ka hgb
                have HV3 := Lib.hid hV3
                have Hg18 := Lib.hid hg18
                have HBg18 := Lib.hid hgb
                have S3 := Lib.hid (SV.mk ka sa)
                replace ST := Lib.hid nST
                replace OX := Lib.hid nOX
                replace BB := Lib.hid nbb
                clear ba ka sa nbb hgb hg18 hV3 nST nOX
                go_upto_region 34 with fail
                rw [HV3.out]
                try rw [Hg18.out]
                clear HV3 Hg18
                clear o
                obtain ⟨W4w, hWW⟩ : ∃ W, V3 = W := ⟨_, rfl⟩
                subst hWW
                have a00 := ST.out.s.k.c0
                have a10 := ST.out.s.k.c1
                have lg0 := ST.out.s.k.lt
                have a03 := S3.out.k.c0
                have a13 := S3.out.k.c1
                have lg3 := S3.out.k.lt
                have f0 := ST.out.s.k.frozen 0
                have f1 := ST.out.s.k.frozen 1
                have sn := ST.out.put S3.out.s (fun b o e hm => HAW.out b o e (by rw [HL.out]; exact hm)) (fun _ b o e => HAP.out b o e)
                have nbb := below_set2 (g := g6) BB.out ST.out.g (.int .i64 0) (.slice A3 (q - 1) c3)
                have ox := (show OB ((V3.setCell ⟨g6, 0, none⟩ (.int .i64 0)).setCell ⟨g6, 1, none⟩ (.slice A3 (q - 1) c3)) g12 kk y from ⟨(OX.out.k.far (p := ⟨g6, 0, none⟩) HGX.out _).far (p := ⟨g6, 1, none⟩) HGX.out _⟩)
                obtain ⟨W5, hW⟩ : ∃ W, (V3.setCell ⟨g6, 0, none⟩ (.int .i64 0)).setCell ⟨g6, 1, none⟩ (.slice A3 (q - 1) c3) = W := ⟨_, rfl⟩
                rw [hW] at sn nbb ox
                have HW := Lib.hid hW
                replace ST := Lib.hid sn
                replace BB := Lib.hid nbb
                replace OX := Lib.hid ox
                clear sn nbb ox hW S3
                go_upto_region 37 with fail
                rw [HW.out]
                clear HW f0 f1
                clear a00 a10 lg0
                clear a03 a13 lg3
                obtain ⟨gl, ol, eA, -, hgl, -, -⟩ := ST.out.l.form (by rw [ST.out.lm]; exact hq0)
                subst eA
                obtain ⟨bq, oq, eq, hbq, cq⟩ := (ST.out.l.intsN ST.out.lm).at_ hq0
                injection eq with eq
                injection eq with eq1 eq2 _
                subst eq1 eq2
                rw [Nat.add_zero, HX0.out] at cq
                have hcl : q ≤ cl := by
                  have h1 := ST.out.l.form (by rw [ST.out.lm]; exact hq0)
                  obtain ⟨_, _, _, _, _, h2, _⟩ := h1
                  rw [ST.out.lm] at h2
                  exact h2
                by_cases hcc : cl ≤ 1
                · have hc1 : cl = 1 := by omega
                  have ST2 := Lib.hid (ST.out.tail rfl hq0 (.inr ⟨hc1, rfl⟩))
                  rw [show cl - 1 = 0 by omega] at ST2
                  clear hc1 ST
                  have ST := ST2
                  clear ST2
                  have tz : ((0 : Int) != (nn : Int) + ((gv : Int) + 1) - ((gn : Int) + 1)) = false := by have := HZN.out; simp <;> omega
                  have a00 := ST.out.s.k.c0
                  have a10 := ST.out.s.k.c1
                  have lg0 := ST.out.s.k.lt
                  go_wp2_with fail
                  refine (rsame01_any A3 (some ⟨gl, ol, none⟩) (q - 1) c3 (q - 1) 0 (ll.drop 1) (ll.drop 1) _ ST.out.s.s.x (ST.out.l.intsN ST.out.lm)).mono ?_
                  rw [sameB_refl]
                  rintro e w7 ⟨rfl, b⟩
                  clear a00 a10 lg0
                  replace ST := Lib.hid (ST.out.below b)
                  replace BB := Lib.hid (below3 BB.out b)
                  clear b
                  have a00 := ST.out.s.k.c0
                  have a10 := ST.out.s.k.c1
                  have lg0 := ST.out.s.k.lt
                  go_wp2_with fail
                  refine (pcheck_any 0 A3 (q - 1) c3 (ll.drop 1) _ ST.out.s.s).mono ?_
                  rw [if_pos OKN.out]
                  rintro e w8 ⟨rfl, b⟩
                  clear a00 a10 lg0
                  replace ST := Lib.hid (ST.out.below b)
                  replace BB := Lib.hid (below3 BB.out b)
                  clear b
                  clear tz
                  go_wp2_with fail
                  go_roundw
                  case rel => exact ⟨k + 1, by omega, by go_num, (gv + 1), (gn + 1), 0, A3, (q - 1), c3, (some ⟨gl, ol, none⟩), 0, (ll.drop 1), by go_num, by go_num, rfl, by omega, by have := HZN.out; omega, ST, OKN, HZN, BB⟩
                  case measure => simp [intOf]; omega
                · have ST2 := Lib.hid (ST.out.tail rfl hq0 (.inl rfl))
                  clear ST
                  have ST := ST2
                  clear ST2
                  have tz : ((0 : Int) != (nn : Int) + ((gv : Int) + 1) - ((gn : Int) + 1)) = false := by have := HZN.out; simp <;> omega
                  have a00 := ST.out.s.k.c0
                  have a10 := ST.out.s.k.c1
                  have lg0 := ST.out.s.k.lt
                  go_wp2_with fail
                  refine (rsame01_any A3 (some ⟨gl, ol + 1, none⟩) (q - 1) c3 (q - 1) (cl - 1) (ll.drop 1) (ll.drop 1) _ ST.out.s.s.x (ST.out.l.intsN ST.out.lm)).mono ?_
                  rw [sameB_refl]
                  rintro e w7 ⟨rfl, b⟩
                  clear a00 a10 lg0
                  replace ST := Lib.hid (ST.out.below b)
                  replace BB := Lib.hid (below3 BB.out b)
                  clear b
                  have a00 := ST.out.s.k.c0
                  have a10 := ST.out.s.k.c1
                  have lg0 := ST.out.s.k.lt
                  go_wp2_with fail
                  refine (pcheck_any 0 A3 (q - 1) c3 (ll.drop 1) _ ST.out.s.s).mono ?_
                  rw [if_pos OKN.out]
                  rintro e w8 ⟨rfl, b⟩
                  clear a00 a10 lg0
                  replace ST := Lib.hid (ST.out.below b)
                  replace BB := Lib.hid (below3 BB.out b)
                  clear b
                  clear tz
                  go_wp2_with fail
                  go_roundw
                  case rel => exact ⟨k + 1, by omega, by go_num, (gv + 1), (gn + 1), 0, A3, (q - 1), c3, (some ⟨gl, ol + 1, none⟩), (cl - 1), (ll.drop 1), by go_num, by go_num, rfl, by omega, by have := HZN.out; omega, ST, OKN, HZN, BB⟩
                  case measure => simp [intOf]; omega
            · as_aux_lemma =>
                have HQ0 : Hid (q = 0) := Lib.hid (by omega)
                have hl0 : ll.length = 0 := by rw [ST.out.lm]; exact HQ0.out
                obtain rfl : ll = [] := List.eq_nil_of_length_eq_zero hl0
                obtain rfl : q = 0 := HQ0.out
                have hz9 : zk ≠ 1000 := by have := HZ.out; omega
                obtain ⟨zz, hzz⟩ : ∃ zz, zk + 1 = zz := ⟨_, rfl⟩
                have hr := give_more OK.out rfl hz9
                have OKN := Lib.hid (ok_more OK.out hz9)
                rw [hzz] at hr OKN
                have HR := Lib.hid hr
                have FZZ : Hid (Fit zz) := Lib.hid (by unfold Fit; have := HZ.out; omega)
                have HZN : Hid (zz = (nn : Int) + ((gv + 1 : Nat) : Int) - (gn : Nat) ∧ 0 ≤ k + 1) := Lib.hid (by have := HZ.out; omega)
                clear hr hl0 hz9 hzz HQ0 hq0
                have a00 := ST.out.s.k.c0
                have a10 := ST.out.s.k.c1
                have lg0 := ST.out.s.k.lt
                have a07 := OX.out.k.c0
                have a17 := OX.out.k.c1
                have lg7 := OX.out.k.lt
                have HLT := Lib.hid ST.out.s.k.lt
                go_wp2_with fail
                refine (pgiveC_any zk As 0 cs [] _ ST.out.s.s).mono ?_
                rw [HR.out]
                rintro e w3 ⟨A3, c3, rfl, o, b⟩
                dsimp only at o ⊢
                have HAW := Lib.hid (o.away HLT.out)
                have HAP := Lib.hid (ST.out.apart o)
                clear a00 a10 lg0
                clear a07 a17 lg7
                replace ST := Lib.hid (ST.out.below b)
                replace OX := Lib.hid (OX.out.below b)
                replace BB := Lib.hid (below3 BB.out b)
                clear b
                have ba := (Below.refl w3.heap.size w3).alloc (Nat.le_refl _) (.cells #[.int .i64 zz, .slice A3 0 c3] 24)
                have ka := Bk.new w3 24 #[.int .i64 zz, .slice A3 0 c3]
                have sa := SemW.own (z := zz) (o.below ba) FZZ.out rfl
                have nST := ST.out.below ba
                have nOX := OX.out.below ba
                have nbb := below3 BB.out ba
                obtain ⟨g18, hg18⟩ : ∃ g, w3.heap.size = g := ⟨_, rfl⟩
                have hgb := BB.out.size
                obtain ⟨V3, hV3⟩ : ∃ V, w3.alloc (.cells #[.int .i64 zz, .slice A3 0 c3] 24) = V := ⟨_, rfl⟩
                rw [hV3] at ka sa nbb nST nOX
                rw [hg18] at ka hgb
                have HV3 := Lib.hid hV3
                have Hg18 := Lib.hid hg18
                have HBg18 := Lib.hid hgb
                have S3 := Lib.hid (SV.mk ka sa)
                replace ST := Lib.hid nST
                replace OX := Lib.hid nOX
                replace BB := Lib.hid nbb
                clear ba ka sa nbb hgb hg18 hV3 nST nOX
                go_upto_region 34 with fail
                rw [HV3.out]
                try rw [Hg18.out]
                clear HV3 Hg18
                clear o
                have a00 := ST.out.s.k.c0
                have a10 := ST.out.s.k.c1
                have lg0 := ST.out.s.k.lt
                have a03 := S3.out.k.c0
                have a13 := S3.out.k.c1
                have lg3 := S3.out.k.lt
                have f0 := ST.out.s.k.frozen 0
                have f1 := ST.out.s.k.frozen 1
                have sn := ST.out.put S3.out.s (fun b o e hm => HAW.out b o e (by rw [show ([] : List Int).length = 0 from rfl]; exact hm)) (fun _ b o e => HAP.out b o e)
                have nbb := below_set2 (g := g6) BB.out ST.out.g (.int .i64 zz) (.slice A3 0 c3)
                have ox := (show OB ((V3.setCell ⟨g6, 0, none⟩ (.int .i64 zz)).setCell ⟨g6, 1, none⟩ (.slice A3 0 c3)) g12 kk y from ⟨(OX.out.k.far (p := ⟨g6, 0, none⟩) HGX.out _).far (p := ⟨g6, 1, none⟩) HGX.out _⟩)
                obtain ⟨W5, hW⟩ : ∃ W, (V3.setCell ⟨g6, 0, none⟩ (.int .i64 zz)).setCell ⟨g6, 1, none⟩ (.slice A3 0 c3) = W := ⟨_, rfl⟩
                rw [hW] at sn nbb ox
                have HW := Lib.hid hW
                replace ST := Lib.hid sn
                replace BB := Lib.hid nbb
                replace OX := Lib.hid ox
                clear sn nbb ox hW S3
                go_upto_region 37 with fail
                rw [HW.out]
                clear HW f0 f1
                clear a00 a10 lg0
                clear a03 a13 lg3
                have tz : (zz != (nn : Int) + ((gv : Int) + 1) - (gn : Int)) = false := by have := HZN.out; simp <;> omega
                have a00 := ST.out.s.k.c0
                have a10 := ST.out.s.k.c1
                have lg0 := ST.out.s.k.lt
                go_wp2_with fail
                refine (rsame01_any A3 Al 0 c3 0 cl [] [] _ ST.out.s.s.x (ST.out.l.intsN ST.out.lm)).mono ?_
                rw [sameB_refl]
                rintro e w7 ⟨rfl, b⟩
                clear a00 a10 lg0
                replace ST := Lib.hid (ST.out.below b)
                replace BB := Lib.hid (below3 BB.out b)
                clear b
                have a00 := ST.out.s.k.c0
                have a10 := ST.out.s.k.c1
                have lg0 := ST.out.s.k.lt
                go_wp2_with fail
                refine (pcheck_any zz A3 0 c3 [] _ ST.out.s.s).mono ?_
                rw [if_pos OKN.out]
                rintro e w8 ⟨rfl, b⟩
                clear a00 a10 lg0
                replace ST := Lib.hid (ST.out.below b)
                replace BB := Lib.hid (below3 BB.out b)
                clear b
                clear tz
                go_wp2_with fail
                go_roundw
                case rel => exact ⟨k + 1, by omega, by go_num, (gv + 1), gn, zz, A3, 0, c3, Al, cl, [], by go_num, by go_num, rfl, by omega, by have := HZN.out; omega, ST, OKN, HZN, BB⟩
                case measure => simp [intOf]; omega
          · by_cases hm : y ∈ ll
            · as_aux_lemma =>
                have HR := Lib.hid (drop_in OK.out hm)
                have HM := Lib.hid (hasB_yes hm)
                have OKN := Lib.hid (ok_wo OK.out y)
                obtain ⟨ws, hws⟩ : ∃ ws, wo ll y = ws := ⟨_, rfl⟩
                obtain ⟨qw, hqw⟩ : ∃ qw, ws.length = qw := ⟨_, rfl⟩
                rw [hws] at HR OKN
                have HWS := Lib.hid hws
                have HL := Lib.hid hqw
                have FZK := Lib.hid ST.out.s.s.f
                have HZN : Hid (zk = (nn : Int) + gv - gn ∧ qw ≤ k + 1) := Lib.hid (by have := HZ.out; have := wo_len ll y; have := ST.out.lm; rw [hws] at *; omega)
                clear hm hws hqw
                have a00 := ST.out.s.k.c0
                have a10 := ST.out.s.k.c1
                have lg0 := ST.out.s.k.lt
                have a07 := OX.out.k.c0
                have a17 := OX.out.k.c1
                have lg7 := OX.out.k.lt
                have HLT := Lib.hid ST.out.s.k.lt
                go_wp2_with fail
                refine (pdropC_any zk As q cs ll y _ ST.out.s.s FY.out).mono ?_
                rw [HR.out]
                rintro e w3 ⟨A3, c3, rfl, o, b⟩
                dsimp only at o ⊢
                rw [HL.out]
                have HAW := Lib.hid (o.away HLT.out)
                have HAP := Lib.hid (ST.out.apart o)
                clear a00 a10 lg0
                clear a07 a17 lg7
                replace ST := Lib.hid (ST.out.below b)
                replace OX := Lib.hid (OX.out.below b)
                replace BB := Lib.hid (below3 BB.out b)
                clear b
                have ba := (Below.refl w3.heap.size w3).alloc (Nat.le_refl _) (.cells #[.int .i64 zk, .slice A3 qw c3] 24)
                have ka := Bk.new w3 24 #[.int .i64 zk, .slice A3 qw c3]
                have sa := SemW.own (z := zk) (o.below ba) FZK.out HL.out
                have nST := ST.out.below ba
                have nOX := OX.out.below ba
                have nbb := below3 BB.out ba
                obtain ⟨g20, hg20⟩ : ∃ g, w3.heap.size = g := ⟨_, rfl⟩
                have hgb := BB.out.size
                obtain ⟨V3, hV3⟩ : ∃ V, w3.alloc (.cells #[.int .i64 zk, .slice A3 qw c3] 24) = V := ⟨_, rfl⟩
                rw [hV3] at ka sa nbb nST nOX
                rw [hg20] at ka hgb
                have HV3 := Lib.hid hV3
                have Hg20 := Lib.hid hg20
                have HBg20 := Lib.hid hgb
                have S3 := Lib.hid (SV.mk ka sa)
                replace ST := Lib.hid nST
                replace OX := Lib.hid nOX
                replace BB := Lib.hid nbb
                clear ba ka sa nbb hgb hg20 hV3 nST nOX
                go_upto_region 17 with fail
                rw [HV3.out]
                try rw [Hg20.out]
                clear HV3 Hg20
                clear o
                have a07 := OX.out.k.c0
                have a17 := OX.out.k.c1
                have lg7 := OX.out.k.lt
                go_wp2_with fail
                refine (rhas_any Al q cl ll y _ (ST.out.l.intsN ST.out.lm)).mono ?_
                rw [HM.out]
                rintro e W4w ⟨rfl, b⟩
                clear a07 a17 lg7
                replace ST := Lib.hid (ST.out.below b)
                replace OX := Lib.hid (OX.out.below b)
                replace S3 := Lib.hid (S3.out.below b)
                replace BB := Lib.hid (below3 BB.out b)
                clear b
                have a00 := ST.out.s.k.c0
                have a10 := ST.out.s.k.c1
                have lg0 := ST.out.s.k.lt
                have a03 := S3.out.k.c0
                have a13 := S3.out.k.c1
                have lg3 := S3.out.k.lt
                have f0 := ST.out.s.k.frozen 0
                have f1 := ST.out.s.k.frozen 1
                have sn := ST.out.put S3.out.s (fun b o e hm => HAW.out b o e (by rw [HL.out]; exact hm)) (fun _ b o e => HAP.out b o e)
                have nbb := below_set2 (g := g6) BB.out ST.out.g (.int .i64 zk) (.slice A3 qw c3)
                have ox := (show OB ((W4w.setCell ⟨g6, 0, none⟩ (.int .i64 zk)).setCell ⟨g6, 1, none⟩ (.slice A3 qw c3)) g12 kk y from ⟨(OX.out.k.far (p := ⟨g6, 0, none⟩) HGX.out _).far (p := ⟨g6, 1, none⟩) HGX.out _⟩)
                obtain ⟨W5, hW⟩ : ∃ W, (W4w.setCell ⟨g6, 0, none⟩ (.int .i64 zk)).setCell ⟨g6, 1, none⟩ (.slice A3 qw c3) = W := ⟨_, rfl⟩
                rw [hW] at sn nbb ox
                have HW := Lib.hid hW
                replace ST := Lib.hid sn
                replace BB := Lib.hid nbb
                replace OX := Lib.hid ox
                clear sn nbb ox hW S3
                go_upto_region 21 with fail
                rw [HW.out]
                clear HW f0 f1
                clear a00 a10 lg0
                clear a03 a13 lg3
                have a07 := OX.out.k.c0
                have a17 := OX.out.k.c1
                have lg7 := OX.out.k.lt
                go_wp2_with fail
                refine (rwo_any Al q cl ll y _ (ST.out.l.intsN ST.out.lm)).mono ?_
                rw [HWS.out]
                rintro e w6 ⟨A8, c8, rfl, o8, b⟩
                rw [HL.out]
                have sn := ST.out.line b o8 BB.out.size
                rw [HL.out] at sn
                clear o8
                clear a07 a17 lg7
                replace BB := Lib.hid (below3 BB.out b)
                clear b
                clear ST
                have ST := Lib.hid sn
                clear sn
                have tz : (zk != (nn : Int) + (gv : Int) - (gn : Int)) = false := by have := HZN.out; simp <;> omega
                have a00 := ST.out.s.k.c0
                have a10 := ST.out.s.k.c1
                have lg0 := ST.out.s.k.lt
                go_wp2_with fail
                refine (rsame01_any A3 A8 qw c3 qw c8 ws ws _ ST.out.s.s.x (ST.out.l.intsN ST.out.lm)).mono ?_
                rw [sameB_refl]
                rintro e w7 ⟨rfl, b⟩
                clear a00 a10 lg0
                replace ST := Lib.hid (ST.out.below b)
                replace BB := Lib.hid (below3 BB.out b)
                clear b
                have a00 := ST.out.s.k.c0
                have a10 := ST.out.s.k.c1
                have lg0 := ST.out.s.k.lt
                go_wp2_with fail
                refine (pcheck_any zk A3 qw c3 ws _ ST.out.s.s).mono ?_
                rw [if_pos OKN.out]
                rintro e w8 ⟨rfl, b⟩
                clear a00 a10 lg0
                replace ST := Lib.hid (ST.out.below b)
                replace BB := Lib.hid (below3 BB.out b)
                clear b
                clear tz
                go_wp2_with fail
                go_roundw
                case rel => exact ⟨k + 1, by omega, by go_num, gv, gn, zk, A3, qw, c3, A8, c8, ws, by go_num, by go_num, rfl, by omega, by have := HZN.out; omega, ST, OKN, HZN, BB⟩
                case measure => simp [intOf]; omega
            · as_aux_lemma =>
                have HR := Lib.hid (drop_out OK.out hm)
                have HM := Lib.hid (hasB_no hm)
                have HZN : Hid (zk = (nn : Int) + gv - gn ∧ q ≤ k + 1) := Lib.hid (by have := HZ.out; omega)
                clear hm
                have a00 := ST.out.s.k.c0
                have a10 := ST.out.s.k.c1
                have lg0 := ST.out.s.k.lt
                have a07 := OX.out.k.c0
                have a17 := OX.out.k.c1
                have lg7 := OX.out.k.lt
                have HLT := Lib.hid ST.out.s.k.lt
                go_wp2_with fail
                refine (pdropC_any zk As q cs ll y _ ST.out.s.s FY.out).mono ?_
                rw [HR.out]
                rintro e w3 ⟨A3, c3, rfl, o, b⟩
                dsimp only at o ⊢
                have HAW := Lib.hid (o.away HLT.out)
                have HAP := Lib.hid (ST.out.apart o)
                clear a00 a10 lg0
                clear a07 a17 lg7
                replace ST := Lib.hid (ST.out.below b)
                replace OX := Lib.hid (OX.out.below b)
                replace BB := Lib.hid (below3 BB.out b)
                clear b
                have ba := (Below.refl w3.heap.size w3).alloc (Nat.le_refl _) (.cells #[.int .i64 0, .slice A3 0 c3] 24)
                have ka := Bk.new w3 24 #[.int .i64 0, .slice A3 0 c3]
                have sa := SemW.own (z := 0) (o.below ba) fit0 rfl
                have nST := ST.out.below ba
                have nOX := OX.out.below ba
                have nbb := below3 BB.out ba
                obtain ⟨g20, hg20⟩ : ∃ g, w3.heap.size = g := ⟨_, rfl⟩
                have hgb := BB.out.size
                obtain ⟨V3, hV3⟩ : ∃ V, w3.alloc (.cells #[.int .i64 0, .slice A3 0 c3] 24) = V := ⟨_, rfl⟩
                rw [hV3] at ka sa nbb nST nOX
                rw [hg20] at ka hgb
                have HV3 := Lib.hid hV3
                have Hg20 := Lib.hid hg20
                have HBg20 := Lib.hid hgb
                have S3 := Lib.hid (SV.mk ka sa)
                replace ST := Lib.hid nST
                replace OX := Lib.hid nOX
                replace BB := Lib.hid nbb
                clear ba ka sa nbb hgb hg20 hV3 nST nOX
                go_upto_region 17 with fail
                rw [HV3.out]
                try rw [Hg20.out]
                clear HV3 Hg20
                clear o
                have a07 := OX.out.k.c0
                have a17 := OX.out.k.c1
                have lg7 := OX.out.k.lt
                go_wp2_with fail
                refine (rhas_any Al q cl ll y _ (ST.out.l.intsN ST.out.lm)).mono ?_
                rw [HM.out]
                rintro e w4 ⟨rfl, b⟩
                clear a07 a17 lg7
                replace ST := Lib.hid (ST.out.below b)
                replace OX := Lib.hid (OX.out.below b)
                replace S3 := Lib.hid (S3.out.below b)
                replace BB := Lib.hid (below3 BB.out b)
                clear b
                have tz : (zk != (nn : Int) + (gv : Int) - (gn : Int)) = false := by have := HZN.out; simp <;> omega
                have a00 := ST.out.s.k.c0
                have a10 := ST.out.s.k.c1
                have lg0 := ST.out.s.k.lt
                go_wp2_with fail
                refine (rsame01_any As Al q cs q cl ll ll _ ST.out.s.s.x (ST.out.l.intsN ST.out.lm)).mono ?_
                rw [sameB_refl]
                rintro e w7 ⟨rfl, b⟩
                clear a00 a10 lg0
                replace ST := Lib.hid (ST.out.below b)
                replace BB := Lib.hid (below3 BB.out b)
                clear b
                have a00 := ST.out.s.k.c0
                have a10 := ST.out.s.k.c1
                have lg0 := ST.out.s.k.lt
                go_wp2_with fail
                refine (pcheck_any zk As q cs ll _ ST.out.s.s).mono ?_
                rw [if_pos OK.out]
                rintro e w8 ⟨rfl, b⟩
                clear a00 a10 lg0
                replace ST := Lib.hid (ST.out.below b)
                replace BB := Lib.hid (below3 BB.out b)
                clear b
                clear tz
                go_wp2_with fail
                go_roundw
                case rel => exact ⟨k + 1, by omega, by go_num, gv, gn, zk, As, q, cs, Al, cl, ll, by go_num, by go_num, rfl, by omega, by have := HZN.out; omega, ST, OK, HZN, BB⟩
                case measure => simp [intOf]; omega
        · clear ST OK HZ
          go_wp2_with fail
          go_ret
          exact ⟨rfl, BB.out⟩

end Go.Proofs.Ytokmogfnliccjaa

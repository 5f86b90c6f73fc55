/-
  The law SemaFree: as many as are free take it, one after the other: the walk.
-/
import Derived.Test.YtokmogfnliccjaaMs
namespace Go.Proofs.Ytokmogfnliccjaa
open Go.RowKit

set_option maxRecDepth 100000 in
set_option maxHeartbeats 8000000 in
theorem lfree_any (z : Int) (A : Option Addr) (n c : Nat) (zs : List Int) (w : World) (fz : Fit z) (hnc : n ≤ c ∧ c ≤ 9223372036854775807) (hx : n ≤ 400 → Ints w A n zs) :
    Calls Try.prog 7 #[.int .i64 z, .slice A n c] w (TrueAns w) := by
  have := hnc; clear this
  by_cases hb : z < 0 ∨ 100 < z ∨ 120 < n
  · have tests : (decide (z < 0) = true) ∨ (decide (z < 0) = false ∧ decide (100 < z) = true) ∨ (decide (z < 0) = false ∧ decide (100 < z) = false ∧ 120 < n) := by
      by_cases h0 : z < 0
      · exact .inl (decide_eq_true h0)
      · by_cases h1 : 100 < z
        · exact .inr (.inl ⟨decide_eq_false h0, decide_eq_true h1⟩)
        · exact .inr (.inr ⟨decide_eq_false h0, decide_eq_false h1, by omega⟩)
    clear hb hx fz
    rcases tests with t0 | ⟨t0, t1⟩ | ⟨t0, t1, h2⟩
    all_goals
      go_enter Try.func7, Try.ntmps7
      go_wp2_with fail
      refine (live_any _).mono ?_
      rintro e w1 ⟨rfl, b⟩
      have BB := Lib.hid b
      clear b
      go_wp2_with fail
      go_ret
      exact ⟨rfl, BB.out⟩
  · have hz0 : 0 ≤ z := by omega
    obtain ⟨nn, rfl⟩ : ∃ nn : Nat, z = (nn : Int) := ⟨z.toNat, by omega⟩
    have hnn : nn ≤ 100 := by omega
    have hn1 : n ≤ 120 := by omega
    have hx := hx (by omega)
    have LX := Lib.hid hx.1
    have HX := Lib.hid hx
    have t0 : decide ((nn : Int) < 0) = false := decide_eq_false (by omega)
    have t1 : decide (100 < (nn : Int)) = false := decide_eq_false (by omega)
    have t2 : decide (120 < (n : Int)) = false := decide_eq_false (by omega)
    have HNEW := Lib.hid (show newR (nn : Int) = (0, (nn : Int), []) by unfold newR; rw [if_pos (by omega)])
    have FZ := Lib.hid fz
    clear hb hz0 hx fz
    go_enter Try.func7, Try.ntmps7
    go_wp2_with fail
    refine (live_any _).mono ?_
    rintro e w1 ⟨rfl, b⟩
    have BB := Lib.hid b
    clear b
    go_wp2_with fail
    refine (pnewC_any (nn : Int) _ FZ.out).mono ?_
    rw [HNEW.out]
    rintro e w2 ⟨A2, c2, rfl, o, b⟩
    dsimp only at o ⊢
    simp only [List.length_nil]
    replace BB := Lib.hid (below3 BB.out b)
    clear b
    have ba := (Below.refl w2.heap.size w2).alloc (Nat.le_refl _) (.cells #[.int .i64 (nn : Int), .slice A2 0 c2] 24)
    have ka := Bk.new w2 24 #[.int .i64 (nn : Int), .slice A2 0 c2]
    have sa := SemW.own (z := (nn : Int)) (o.below ba) FZ.out rfl
    have nbb := below3 BB.out ba
    obtain ⟨g1, hg1⟩ : ∃ g, w2.heap.size = g := ⟨_, rfl⟩
    have hgb := BB.out.size
    obtain ⟨V2, hV2⟩ : ∃ V, w2.alloc (.cells #[.int .i64 (nn : Int), .slice A2 0 c2] 24) = V := ⟨_, rfl⟩
    rw [hV2] at ka sa nbb
    rw [hg1] at ka hgb
    have HV2 := Lib.hid hV2
    have Hg1 := Lib.hid hg1
    have HBg1 := Lib.hid hgb
    have S1 := Lib.hid (SV.mk ka sa)
    replace BB := Lib.hid nbb
    clear ba ka sa nbb hgb hg1 hV2
    go_upto_region 7 with fail
    rw [HV2.out]
    try rw [Hg1.out]
    clear HV2 Hg1
    clear o t0 t1
    go_wp2_with fail
    go_loopw [37] (fun t wr => ∃ k : Nat, k ≤ n ∧ t = .int .i64 k ∧ ∃ zk Ak qk ck lk, Hid (SV wr g1 zk Ak qk ck lk) ∧ Hid (semOk zk lk) ∧ qk ≤ 120 ∧ Hid (qk = k - nn) ∧ Hid (zk = max ((nn : Int) - k) 0) ∧ Hid (Below w.heap.size w wr)) (fun t _ => n - (intOf t).toNat)
    case atStart => exact ⟨0, Nat.zero_le _, rfl, (nn : Int), A2, 0, c2, [], S1, Lib.hid (ok_one _ (by omega)), by omega, Lib.hid (by omega), Lib.hid (by omega), BB⟩
    case round =>
      clear S1 BB
      rename World => wr
      obtain ⟨k, hk, rfl, zk, Ak, qk, ck, lk, S1, OK, hq, HQK, HZK, BB⟩ := hrel
      by_cases hkn : k < n
      · have HLK := Lib.hid S1.out.s.x.1
        obtain ⟨bI, oI, eI, hbI, cI⟩ := (HX.out.below BB.out).at_ hkn
        subst eI
        have fy := HX.out.fit hkn
        obtain ⟨y, hy⟩ : ∃ y, nth zs k = y := ⟨_, rfl⟩
        rw [hy] at cI fy
        have FY := Lib.hid fy
        have HLT := Lib.hid S1.out.k.lt
        clear hy fy
        by_cases h0 : y < 0
        · have t0 : decide (y < 0) = true := decide_eq_true h0
          clear h0
          go_wp2_with fail
          go_ret
          exact ⟨rfl, BB.out⟩
        · have t0 : decide (y < 0) = false := decide_eq_false h0
          rcases take_ways OK.out y with ⟨e1, he, hr, hw, h6, -⟩ | ⟨hr, -, hz, hl⟩ | ⟨hr, -, hm, hz, hl⟩
          · have hm : y ∈ lk := by
              rcases hw with q | q | q
              · exact absurd q h0
              · exact q
              · have := HLK.out; have := HQK.out; omega
            obtain rfl : e1 = 6 := h6 (by omega) hm
            have hpos : 0 < lk.length := List.length_pos_of_mem hm
            have tg : decide (nn < k) = true := decide_eq_true (by have := HLK.out; have := HQK.out; omega)
            have HR := Lib.hid hr
            clear h0 he hr hw h6 hm hpos
            have a01 := S1.out.k.c0
            have a11 := S1.out.k.c1
            have lg1 := S1.out.k.lt
            go_wp2_with fail
            refine (ptakeC_any zk Ak qk ck lk y _ S1.out.s FY.out).mono ?_
            rw [HR.out]
            rintro e w3 ⟨A3, c3, rfl, o, b⟩
            dsimp only at o ⊢
            have HAW := Lib.hid (o.away HLT.out)
            clear a01 a11 lg1
            clear cI hbI
            replace S1 := Lib.hid (S1.out.below b)
            replace BB := Lib.hid (below3 BB.out b)
            clear b
            have ba := (Below.refl w3.heap.size w3).alloc (Nat.le_refl _) (.cells #[.int .i64 0, .slice A3 0 c3] 24)
            have ka := Bk.new w3 24 #[.int .i64 0, .slice A3 0 c3]
            have sa := SemW.own (z := 0) (o.below ba) fit0 rfl
            have nS1 := S1.out.below ba
            have nbb := below3 BB.out ba
            obtain ⟨g3, hg3⟩ : ∃ g, w3.heap.size = g := ⟨_, rfl⟩
            have hgb := BB.out.size
            obtain ⟨V3, hV3⟩ : ∃ V, w3.alloc (.cells #[.int .i64 0, .slice A3 0 c3] 24) = V := ⟨_, rfl⟩
            rw [hV3] at ka sa nbb nS1
            rw [hg3] at ka hgb
            have HV3 := Lib.hid hV3
            have Hg3 := Lib.hid hg3
            have HBg3 := Lib.hid hgb
            have S3 := Lib.hid (SV.mk ka sa)
            replace S1 := Lib.hid nS1
            replace BB := Lib.hid nbb
            clear ba ka sa nbb hgb hg3 hV3 nS1
            go_upto_region 15 with fail
            rw [HV3.out]
            try rw [Hg3.out]
            clear HV3 Hg3
            clear o
            go_wp2_with fail
            go_ret
            exact ⟨rfl, BB.out⟩
          · have hkk : k < nn := by have := HZK.out; omega
            have HQN : Hid (0 = k + 1 - nn) := Lib.hid (by omega)
            obtain ⟨zz, hzz⟩ : ∃ zz, zk - 1 = zz := ⟨_, rfl⟩
            have OKN := Lib.hid (ok_take hz OK.out)
            rw [hzz] at hr OKN
            have HR := Lib.hid hr
            have FZZ : Hid (Fit zz) := Lib.hid (by unfold Fit; have := HZK.out; omega)
            have HZN : Hid (zz = max ((nn : Int) - ((k + 1 : Nat) : Int)) 0) := Lib.hid (by have := HZK.out; omega)
            have tl : decide ((k : Int) < (nn : Int)) = true := decide_eq_true (by omega)
            have tm : max ((k : Int) + 1 - (nn : Int)) 0 = 0 := by omega
            have tf : (zz != max ((nn : Int) - (k : Int) - 1) 0) = false := by have := HZN.out; simp; omega
            have HL := Lib.hid (show ([] : List Int).length = 0 from rfl)
            clear h0 hr hz hl hzz
            have a01 := S1.out.k.c0
            have a11 := S1.out.k.c1
            have lg1 := S1.out.k.lt
            go_wp2_with fail
            refine (ptakeC_any zk Ak qk ck lk y _ S1.out.s FY.out).mono ?_
            rw [HR.out]
            rintro e w3 ⟨A3, c3, rfl, o, b⟩
            dsimp only at o ⊢
            have HAW := Lib.hid (o.away HLT.out)
            clear a01 a11 lg1
            clear cI hbI
            replace S1 := Lib.hid (S1.out.below b)
            replace BB := Lib.hid (below3 BB.out b)
            clear b
            have ba := (Below.refl w3.heap.size w3).alloc (Nat.le_refl _) (.cells #[.int .i64 zz, .slice A3 0 c3] 24)
            have ka := Bk.new w3 24 #[.int .i64 zz, .slice A3 0 c3]
            have sa := SemW.own (z := zz) (o.below ba) FZZ.out rfl
            have nS1 := S1.out.below ba
            have nbb := below3 BB.out ba
            obtain ⟨g3, hg3⟩ : ∃ g, w3.heap.size = g := ⟨_, rfl⟩
            have hgb := BB.out.size
            obtain ⟨V3, hV3⟩ : ∃ V, w3.alloc (.cells #[.int .i64 zz, .slice A3 0 c3] 24) = V := ⟨_, rfl⟩
            rw [hV3] at ka sa nbb nS1
            rw [hg3] at ka hgb
            have HV3 := Lib.hid hV3
            have Hg3 := Lib.hid hg3
            have HBg3 := Lib.hid hgb
            have S3 := Lib.hid (SV.mk ka sa)
            replace S1 := Lib.hid nS1
            replace BB := Lib.hid nbb
            clear ba ka sa nbb hgb hg3 hV3 nS1
            go_upto_region 15 with fail
            rw [HV3.out]
            try rw [Hg3.out]
            clear HV3 Hg3
            clear o
            have SN := Lib.hid (S1.out.set_ S3.out.s (fun b o e hm => HAW.out b o e (by rw [HL.out]; exact hm)))
            have BN := Lib.hid (below_set2 (g := g1) BB.out HBg1.out (.int .i64 zz) (.slice A3 0 c3))
            have a01 := S1.out.k.c0
            have a11 := S1.out.k.c1
            have lg1 := S1.out.k.lt
            have a03 := S3.out.k.c0
            have a13 := S3.out.k.c1
            have lg3 := S3.out.k.lt
            have f10 := S1.out.k.frozen 0
            have f11 := S1.out.k.frozen 1
            clear S1 S3 BB
            go_wp2_with fail
            go_roundw
            case rel => exact ⟨k + 1, by omega, by go_num, zz, A3, 0, c3, [], SN, OKN, by omega, HQN, HZN, BN⟩
            case measure => simp [intOf]; omega
          · have hkk : nn ≤ k := by have := HZK.out; omega
            subst hz
            have OKN := Lib.hid (ok_wait OK.out (by omega) hm hl)
            have HR := Lib.hid hr
            have HL := Lib.hid (show (lk ++ [y]).length = qk + 1 by rw [List.length_append, HLK.out]; rfl)
            have HZN : Hid ((0 : Int) = max ((nn : Int) - ((k + 1 : Nat) : Int)) 0) := Lib.hid (by omega)
            have tl : decide ((k : Int) < (nn : Int)) = false := decide_eq_false (by omega)
            have HQN : Hid (qk + 1 = k + 1 - nn) := Lib.hid (by have := HQK.out; omega)
            have tm : ((qk : Int) + 1 != max ((k : Int) + 1 - (nn : Int)) 0) = false := by have := HQK.out; simp; omega
            have tf : max ((nn : Int) - (k : Int) - 1) 0 = 0 := by omega
            clear h0 hr hm hl
            have a01 := S1.out.k.c0
            have a11 := S1.out.k.c1
            have lg1 := S1.out.k.lt
            go_wp2_with fail
            refine (ptakeC_any 0 Ak qk ck lk y _ S1.out.s FY.out).mono ?_
            rw [HR.out]
            rintro e w3 ⟨A3, c3, rfl, o, b⟩
            dsimp only at o ⊢
            rw [HL.out]
            have HAW := Lib.hid (o.away HLT.out)
            clear a01 a11 lg1
            clear cI hbI
            replace S1 := Lib.hid (S1.out.below b)
            replace BB := Lib.hid (below3 BB.out b)
            clear b
            have ba := (Below.refl w3.heap.size w3).alloc (Nat.le_refl _) (.cells #[.int .i64 0, .slice A3 (qk + 1) c3] 24)
            have ka := Bk.new w3 24 #[.int .i64 0, .slice A3 (qk + 1) c3]
            have sa := SemW.own (z := 0) (o.below ba) fit0 HL.out
            have nS1 := S1.out.below ba
            have nbb := below3 BB.out ba
            obtain ⟨g3, hg3⟩ : ∃ g, w3.heap.size = g := ⟨_, rfl⟩
            have hgb := BB.out.size
            obtain ⟨V3, hV3⟩ : ∃ V, w3.alloc (.cells #[.int .i64 0, .slice A3 (qk + 1) c3] 24) = V := ⟨_, rfl⟩
            rw [hV3] at ka sa nbb nS1
            rw [hg3] at ka hgb
            have HV3 := Lib.hid hV3
            have Hg3 := Lib.hid hg3
            have HBg3 := Lib.hid hgb
            have S3 := Lib.hid (SV.mk ka sa)
            replace S1 := Lib.hid nS1
            replace BB := Lib.hid nbb
            clear ba ka sa nbb hgb hg3 hV3 nS1
            go_upto_region 15 with fail
            rw [HV3.out]
            try rw [Hg3.out]
            clear HV3 Hg3
            clear o
            have SN := Lib.hid (S1.out.set_ S3.out.s (fun b o e hm => HAW.out b o e (by rw [HL.out]; exact hm)))
            have BN := Lib.hid (below_set2 (g := g1) BB.out HBg1.out (.int .i64 0) (.slice A3 (qk + 1) c3))
            have a01 := S1.out.k.c0
            have a11 := S1.out.k.c1
            have lg1 := S1.out.k.lt
            have a03 := S3.out.k.c0
            have a13 := S3.out.k.c1
            have lg3 := S3.out.k.lt
            have f10 := S1.out.k.frozen 0
            have f11 := S1.out.k.frozen 1
            clear S1 S3 BB
            go_wp2_with fail
            go_roundw
            case rel => exact ⟨k + 1, by omega, by go_num, 0, A3, qk + 1, c3, lk ++ [y], SN, OKN, by have := HQN.out; omega, HQN, HZN, BN⟩
            case measure => simp [intOf]; omega
      · clear OK S1 hq
        go_wp2_with fail
        go_ret
        exact ⟨rfl, BB.out⟩

end Go.Proofs.Ytokmogfnliccjaa

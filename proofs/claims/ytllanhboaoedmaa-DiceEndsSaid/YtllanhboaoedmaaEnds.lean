/-
  The walk of the law DiceEnds of layer 3: behind the last octet all that is drawn is the least.
-/
import Derived.Test.YtllanhboaoedmaaPlain
namespace Go.Proofs.Ytllanhboaoedmaa
open Go.RowKit

theorem ends_place {ws : List Int} (h : ∀ x ∈ ws, 0 ≤ x) {k : Nat} (hk : k < ws.length) (h0 : pre ws k = 0) (h1 : 0 < nth ws k) : pick ws 0 = k :=
  pick_eq h ⟨hk, by omega, by rw [pre_succ hk]; omega⟩

set_option maxRecDepth 100000 in
set_option maxHeartbeats 2000000 in
theorem ends_big (A B : Option Addr) (N c k d : Nat) (m n : Int) (w : World) (hN : N ≤ 9223372036854775807) (hk : k * 8 ≤ 140737488351232) (h : 300 < N ∨ 200 < k) :
    Calls Try.prog 7 #[.slice A N c, .int .i64 m, .int .i64 n, .slice B k d] w (TrueAns w) := by
  by_cases h1 : 300 < N
  all_goals
    go_enter Try.func7, Try.ntmps7
    go_wp2_with fail
    refine (live_any _).mono ?_
    rintro e w1 ⟨rfl, hb1⟩
    have HB := Lib.hid hb1
    clear hb1
    go_wp2
    go_ret
    exact ⟨rfl, HB.out⟩

set_option maxRecDepth 100000 in
set_option maxHeartbeats 2000000 in
theorem ends_111 (A B : Option Addr) (N c k d : Nat) (m n : Int) (bs ws : List Int) (w : World) (ho : Octs w A N bs) (hw : Ints w B k ws) (hN : N ≤ 300) (hk : k ≤ 200) (hm : 1 ≤ m ∧ m ≤ 65536) (hn : 0 ≤ n ∧ n ≤ 256) (hg : weightE ws = 0) :
    Calls Try.prog 7 #[.slice A N c, .int .i64 m, .int .i64 n, .slice B k d] w (TrueAns w) := by
  have O_l := Lib.hid ho
  have O_w := Lib.hid hw
  have BB := Lib.hid (Below.refl w.heap.size w)
  have HM := Lib.hid hm
  have HN := Lib.hid hn
  have HG := Lib.hid hg
  clear ho hw hm hn hg
  go_enter Try.func7, Try.ntmps7
  go_wp2_with fail
  refine (live_any _).mono ?_
  rintro e w1 ⟨rfl, hb⟩
  have ha := hb.alloc hb.size (.cells #[.slice A N c, .int .i64 (N : Int)] 24)
  have han := (Below.refl w1.heap.size w1).alloc (Nat.le_refl _) (.cells #[.slice A N c, .int .i64 (N : Int)] 24)
  replace O_l := Lib.hid (O_l.out.below ha)
  replace O_w := Lib.hid (O_w.out.below ha)
  replace BB := Lib.hid (below3 BB.out ha)
  have K_d := Lib.hid (Bk.new w1 24 #[.slice A N c, .int .i64 (N : Int)])
  clear ha hb han
  have a_d := K_d.out.c0
  have b_d := K_d.out.c1
  go_wp2_with fail
  refine (below_end A N c bs m _ O_l.out HM.out.1 HM.out.2).mono ?_
  rintro e w2 ⟨Ax, cx, rfl, hx, hb⟩
  clear a_d b_d
  have ha := hb.alloc hb.size (.cells #[.slice Ax N cx, .int .i64 (N : Int)] 24)
  have han := (Below.refl w2.heap.size w2).alloc (Nat.le_refl _) (.cells #[.slice Ax N cx, .int .i64 (N : Int)] 24)
  replace K_d := Lib.hid (K_d.out.below ha K_d.out.lt)
  replace O_l := Lib.hid (O_l.out.below ha)
  replace O_w := Lib.hid (O_w.out.below ha)
  replace BB := Lib.hid (below3 BB.out ha)
  have O_x := Lib.hid (hx.below han)
  have K_x := Lib.hid (Bk.new w2 24 #[.slice Ax N cx, .int .i64 (N : Int)])
  clear ha hb han hx
  have a_d := K_d.out.c0
  have b_d := K_d.out.c1
  go_wp2_with fail
  refine (order_end A N c bs n _ O_l.out HN.out.1 HN.out.2).mono ?_
  rintro e w3 ⟨l, Ay, cy, By, dy, ny, rfl, hl, hy, hb⟩
  clear a_d b_d
  have ha := hb.alloc hb.size (.cells #[.slice Ay N cy, .int .i64 (N : Int)] 24)
  have han := (Below.refl w3.heap.size w3).alloc (Nat.le_refl _) (.cells #[.slice Ay N cy, .int .i64 (N : Int)] 24)
  replace K_d := Lib.hid (K_d.out.below ha K_d.out.lt)
  replace K_x := Lib.hid (K_x.out.below ha K_x.out.lt)
  replace O_l := Lib.hid (O_l.out.below ha)
  replace O_w := Lib.hid (O_w.out.below ha)
  replace O_x := Lib.hid (O_x.out.below ha)
  replace BB := Lib.hid (below3 BB.out ha)
  have O_lo := Lib.hid (hl.below han)
  have O_y := Lib.hid (hy.below han)
  have K_y := Lib.hid (Bk.new w3 24 #[.slice Ay N cy, .int .i64 (N : Int)])
  clear ha hb han hl hy
  have a_d := K_d.out.c0
  have b_d := K_d.out.c1
  go_wp2_with fail
  refine (heavy_end A B N c k d bs ws _ O_l.out O_w.out HG.out).mono ?_
  rintro e w4 ⟨Az, cz, rfl, hz, hb⟩
  clear a_d b_d
  have ha := hb.alloc hb.size (.cells #[.slice Az N cz, .int .i64 (N : Int)] 24)
  have han := (Below.refl w4.heap.size w4).alloc (Nat.le_refl _) (.cells #[.slice Az N cz, .int .i64 (N : Int)] 24)
  replace K_d := Lib.hid (K_d.out.below ha K_d.out.lt)
  replace K_x := Lib.hid (K_x.out.below ha K_x.out.lt)
  replace K_y := Lib.hid (K_y.out.below ha K_y.out.lt)
  replace O_l := Lib.hid (O_l.out.below ha)
  replace O_w := Lib.hid (O_w.out.below ha)
  replace O_x := Lib.hid (O_x.out.below ha)
  replace O_lo := Lib.hid (O_lo.out.below ha)
  replace O_y := Lib.hid (O_y.out.below ha)
  replace BB := Lib.hid (below3 BB.out ha)
  have O_z := Lib.hid (hz.below han)
  have K_z := Lib.hid (Bk.new w4 24 #[.slice Az N cz, .int .i64 (N : Int)])
  clear ha hb han hz
  have a_d := K_d.out.c0
  have b_d := K_d.out.c1
  have a_x := K_x.out.c0
  have b_x := K_x.out.c1
  have a_y := K_y.out.c0
  have b_y := K_y.out.c1
  go_wp2_with fail
  refine (same_yes _ _ N _ _ N bs _ O_x.out O_l.out).mono ?_
  rintro e w5 ⟨rfl, hb⟩
  clear a_d b_d a_x b_x a_y b_y
  have ha := hb
  replace K_d := Lib.hid (K_d.out.below ha K_d.out.lt)
  replace K_x := Lib.hid (K_x.out.below ha K_x.out.lt)
  replace K_y := Lib.hid (K_y.out.below ha K_y.out.lt)
  replace K_z := Lib.hid (K_z.out.below ha K_z.out.lt)
  replace O_l := Lib.hid (O_l.out.below ha)
  replace O_w := Lib.hid (O_w.out.below ha)
  replace O_x := Lib.hid (O_x.out.below ha)
  replace O_lo := Lib.hid (O_lo.out.below ha)
  replace O_y := Lib.hid (O_y.out.below ha)
  replace O_z := Lib.hid (O_z.out.below ha)
  replace BB := Lib.hid (below3 BB.out ha)
  clear ha hb
  have a_d := K_d.out.c0
  have b_d := K_d.out.c1
  have a_y := K_y.out.c0
  have b_y := K_y.out.c1
  go_wp2_with fail
  refine (same_yes _ _ N _ _ N bs _ O_y.out O_l.out).mono ?_
  rintro e w6 ⟨rfl, hb⟩
  clear a_d b_d a_y b_y
  have ha := hb
  replace K_d := Lib.hid (K_d.out.below ha K_d.out.lt)
  replace K_x := Lib.hid (K_x.out.below ha K_x.out.lt)
  replace K_y := Lib.hid (K_y.out.below ha K_y.out.lt)
  replace K_z := Lib.hid (K_z.out.below ha K_z.out.lt)
  replace O_l := Lib.hid (O_l.out.below ha)
  replace O_w := Lib.hid (O_w.out.below ha)
  replace O_x := Lib.hid (O_x.out.below ha)
  replace O_lo := Lib.hid (O_lo.out.below ha)
  replace O_y := Lib.hid (O_y.out.below ha)
  replace O_z := Lib.hid (O_z.out.below ha)
  replace BB := Lib.hid (below3 BB.out ha)
  clear ha hb
  obtain ⟨g1, g2, g3, g4⟩ := weightE_zero HG.out
  have G2 := Lib.hid g2
  have G4 := Lib.hid g4
  clear g1 g2 g3 g4
  go_wp2
  go_loop [86] (fun t => ∃ q : Nat, q ≤ k ∧ t = .int .i64 q ∧ Hid (pre ws q = 0)) (fun t => k - (intOf t).toNat)
  case atStart => exact ⟨0, Nat.zero_le _, rfl, Lib.hid (pre_zero _)⟩
  case round =>
    obtain ⟨q, hq, rfl, HP⟩ := hrel
    by_cases hlt : q < k
    · have hql : q < ws.length := by rw [O_w.out.1]; exact hlt
      have hx := G2.out _ (List.getElem_mem hql)
      rw [← nth_get hql] at hx
      obtain ⟨-, -, -, hc⟩ := O_w.out
      obtain ⟨bb, o, rfl, -, hcell⟩ := hc (by omega)
      have c1 := hcell q hlt
      clear hcell hc
      by_cases hy : 0 < nth ws q
      · have HK : Hid (pick ws 0 = q) := Lib.hid (ends_place (fun x hx => (G2.out x hx).1) hql HP.out hy)
        rw [HK.out]
        clear hx hql
        have a_d := K_d.out.c0
        have b_d := K_d.out.c1
        have a_z := K_z.out.c0
        have b_z := K_z.out.c1
        go_wp2_with fail
        refine (same_yes _ _ N _ _ N bs _ O_z.out O_l.out).mono ?_
        rintro e w7 ⟨rfl, hb⟩
        clear a_d b_d a_z b_z
        have ha := hb
        replace K_d := Lib.hid (K_d.out.below ha K_d.out.lt)
        replace K_x := Lib.hid (K_x.out.below ha K_x.out.lt)
        replace K_y := Lib.hid (K_y.out.below ha K_y.out.lt)
        replace K_z := Lib.hid (K_z.out.below ha K_z.out.lt)
        replace O_l := Lib.hid (O_l.out.below ha)
        replace O_w := Lib.hid (O_w.out.below ha)
        replace O_x := Lib.hid (O_x.out.below ha)
        replace O_lo := Lib.hid (O_lo.out.below ha)
        replace O_y := Lib.hid (O_y.out.below ha)
        replace O_z := Lib.hid (O_z.out.below ha)
        replace BB := Lib.hid (below3 BB.out ha)
        clear ha hb
        go_wp2
        go_ret
        exact ⟨rfl, BB.out⟩
      · have HP2 : Hid (pre ws (q + 1) = 0) := Lib.hid (by rw [pre_succ hql, HP.out]; omega)
        clear hx hql
        go_wp2
        go_round
        case rel => exact ⟨q + 1, by omega, by go_num, HP2⟩
        case measure => simp [intOf]; omega
    · exfalso
      have h1 := HP.out
      have h2 := G4.out
      rw [← pre_all, O_w.out.1, show k = q by omega, h1] at h2
      omega

set_option maxRecDepth 100000 in
set_option maxHeartbeats 2000000 in
theorem ends_110 (A B : Option Addr) (N c k d : Nat) (m n : Int) (bs ws : List Int) (w : World) (ho : Octs w A N bs) (hw : Ints w B k ws) (hN : N ≤ 300) (hk : k ≤ 200) (hm : 1 ≤ m ∧ m ≤ 65536) (hn : 0 ≤ n ∧ n ≤ 256) (hg : weightE ws ≠ 0) :
    Calls Try.prog 7 #[.slice A N c, .int .i64 m, .int .i64 n, .slice B k d] w (TrueAns w) := by
  have O_l := Lib.hid ho
  have O_w := Lib.hid hw
  have BB := Lib.hid (Below.refl w.heap.size w)
  have HM := Lib.hid hm
  have HN := Lib.hid hn
  have HG := Lib.hid hg
  obtain ⟨E, hE⟩ : ∃ E, weightE ws = E := ⟨_, rfl⟩
  have hE0 : E ≠ 0 := hE ▸ hg
  have HE := Lib.hid hE
  have e9 : (E != 0) = true := by simpa using hE0
  clear hE
  clear ho hw hm hn hg
  go_enter Try.func7, Try.ntmps7
  go_wp2_with fail
  refine (live_any _).mono ?_
  rintro e w1 ⟨rfl, hb⟩
  have ha := hb.alloc hb.size (.cells #[.slice A N c, .int .i64 (N : Int)] 24)
  have han := (Below.refl w1.heap.size w1).alloc (Nat.le_refl _) (.cells #[.slice A N c, .int .i64 (N : Int)] 24)
  replace O_l := Lib.hid (O_l.out.below ha)
  replace O_w := Lib.hid (O_w.out.below ha)
  replace BB := Lib.hid (below3 BB.out ha)
  have K_d := Lib.hid (Bk.new w1 24 #[.slice A N c, .int .i64 (N : Int)])
  clear ha hb han
  have a_d := K_d.out.c0
  have b_d := K_d.out.c1
  go_wp2_with fail
  refine (below_end A N c bs m _ O_l.out HM.out.1 HM.out.2).mono ?_
  rintro e w2 ⟨Ax, cx, rfl, hx, hb⟩
  clear a_d b_d
  have ha := hb.alloc hb.size (.cells #[.slice Ax N cx, .int .i64 (N : Int)] 24)
  have han := (Below.refl w2.heap.size w2).alloc (Nat.le_refl _) (.cells #[.slice Ax N cx, .int .i64 (N : Int)] 24)
  replace K_d := Lib.hid (K_d.out.below ha K_d.out.lt)
  replace O_l := Lib.hid (O_l.out.below ha)
  replace O_w := Lib.hid (O_w.out.below ha)
  replace BB := Lib.hid (below3 BB.out ha)
  have O_x := Lib.hid (hx.below han)
  have K_x := Lib.hid (Bk.new w2 24 #[.slice Ax N cx, .int .i64 (N : Int)])
  clear ha hb han hx
  have a_d := K_d.out.c0
  have b_d := K_d.out.c1
  go_wp2_with fail
  refine (order_end A N c bs n _ O_l.out HN.out.1 HN.out.2).mono ?_
  rintro e w3 ⟨l, Ay, cy, By, dy, ny, rfl, hl, hy, hb⟩
  clear a_d b_d
  have ha := hb.alloc hb.size (.cells #[.slice Ay N cy, .int .i64 (N : Int)] 24)
  have han := (Below.refl w3.heap.size w3).alloc (Nat.le_refl _) (.cells #[.slice Ay N cy, .int .i64 (N : Int)] 24)
  replace K_d := Lib.hid (K_d.out.below ha K_d.out.lt)
  replace K_x := Lib.hid (K_x.out.below ha K_x.out.lt)
  replace O_l := Lib.hid (O_l.out.below ha)
  replace O_w := Lib.hid (O_w.out.below ha)
  replace O_x := Lib.hid (O_x.out.below ha)
  replace BB := Lib.hid (below3 BB.out ha)
  have O_lo := Lib.hid (hl.below han)
  have O_y := Lib.hid (hy.below han)
  have K_y := Lib.hid (Bk.new w3 24 #[.slice Ay N cy, .int .i64 (N : Int)])
  clear ha hb han hl hy
  have a_d := K_d.out.c0
  have b_d := K_d.out.c1
  go_wp2_with fail
  refine (heavy_no A B N c k d N ws E _ (by omega) (by omega) O_w.out HE.out hE0).mono ?_
  rintro e w4 ⟨Az, cz, rfl, -, hb⟩
  clear a_d b_d
  have ha := hb.alloc hb.size (.cells #[.slice Az 0 cz, .int .i64 0] 24)
  have han := (Below.refl w4.heap.size w4).alloc (Nat.le_refl _) (.cells #[.slice Az 0 cz, .int .i64 0] 24)
  replace K_d := Lib.hid (K_d.out.below ha K_d.out.lt)
  replace K_x := Lib.hid (K_x.out.below ha K_x.out.lt)
  replace K_y := Lib.hid (K_y.out.below ha K_y.out.lt)
  replace O_l := Lib.hid (O_l.out.below ha)
  replace O_w := Lib.hid (O_w.out.below ha)
  replace O_x := Lib.hid (O_x.out.below ha)
  replace O_lo := Lib.hid (O_lo.out.below ha)
  replace O_y := Lib.hid (O_y.out.below ha)
  replace BB := Lib.hid (below3 BB.out ha)
  have K_z := Lib.hid (Bk.new w4 24 #[.slice Az 0 cz, .int .i64 0])
  clear ha hb han
  have a_d := K_d.out.c0
  have b_d := K_d.out.c1
  have a_x := K_x.out.c0
  have b_x := K_x.out.c1
  have a_y := K_y.out.c0
  have b_y := K_y.out.c1
  go_wp2_with fail
  refine (same_yes _ _ N _ _ N bs _ O_x.out O_l.out).mono ?_
  rintro e w5 ⟨rfl, hb⟩
  clear a_d b_d a_x b_x a_y b_y
  have ha := hb
  replace K_d := Lib.hid (K_d.out.below ha K_d.out.lt)
  replace K_x := Lib.hid (K_x.out.below ha K_x.out.lt)
  replace K_y := Lib.hid (K_y.out.below ha K_y.out.lt)
  replace K_z := Lib.hid (K_z.out.below ha K_z.out.lt)
  replace O_l := Lib.hid (O_l.out.below ha)
  replace O_w := Lib.hid (O_w.out.below ha)
  replace O_x := Lib.hid (O_x.out.below ha)
  replace O_lo := Lib.hid (O_lo.out.below ha)
  replace O_y := Lib.hid (O_y.out.below ha)
  replace BB := Lib.hid (below3 BB.out ha)
  clear ha hb
  have a_d := K_d.out.c0
  have b_d := K_d.out.c1
  have a_y := K_y.out.c0
  have b_y := K_y.out.c1
  go_wp2_with fail
  refine (same_yes _ _ N _ _ N bs _ O_y.out O_l.out).mono ?_
  rintro e w6 ⟨rfl, hb⟩
  clear a_d b_d a_y b_y
  have ha := hb
  replace K_d := Lib.hid (K_d.out.below ha K_d.out.lt)
  replace K_x := Lib.hid (K_x.out.below ha K_x.out.lt)
  replace K_y := Lib.hid (K_y.out.below ha K_y.out.lt)
  replace K_z := Lib.hid (K_z.out.below ha K_z.out.lt)
  replace O_l := Lib.hid (O_l.out.below ha)
  replace O_w := Lib.hid (O_w.out.below ha)
  replace O_x := Lib.hid (O_x.out.below ha)
  replace O_lo := Lib.hid (O_lo.out.below ha)
  replace O_y := Lib.hid (O_y.out.below ha)
  replace BB := Lib.hid (below3 BB.out ha)
  clear ha hb
  go_wp2
  go_ret
  exact ⟨rfl, BB.out⟩

set_option maxRecDepth 100000 in
set_option maxHeartbeats 2000000 in
theorem ends_101 (A B : Option Addr) (N c k d : Nat) (m n : Int) (bs ws : List Int) (w : World) (ho : Octs w A N bs) (hw : Ints w B k ws) (hN : N ≤ 300) (hk : k ≤ 200) (hm : 1 ≤ m ∧ m ≤ 65536) (hn : ¬ (0 ≤ n ∧ n ≤ 256)) (hg : weightE ws = 0) :
    Calls Try.prog 7 #[.slice A N c, .int .i64 m, .int .i64 n, .slice B k d] w (TrueAns w) := by
  have O_l := Lib.hid ho
  have O_w := Lib.hid hw
  have BB := Lib.hid (Below.refl w.heap.size w)
  have HM := Lib.hid hm
  have HN := Lib.hid hn
  have HG := Lib.hid hg
  clear ho hw hm hn hg
  go_enter Try.func7, Try.ntmps7
  go_wp2_with fail
  refine (live_any _).mono ?_
  rintro e w1 ⟨rfl, hb⟩
  have ha := hb.alloc hb.size (.cells #[.slice A N c, .int .i64 (N : Int)] 24)
  have han := (Below.refl w1.heap.size w1).alloc (Nat.le_refl _) (.cells #[.slice A N c, .int .i64 (N : Int)] 24)
  replace O_l := Lib.hid (O_l.out.below ha)
  replace O_w := Lib.hid (O_w.out.below ha)
  replace BB := Lib.hid (below3 BB.out ha)
  have K_d := Lib.hid (Bk.new w1 24 #[.slice A N c, .int .i64 (N : Int)])
  clear ha hb han
  have a_d := K_d.out.c0
  have b_d := K_d.out.c1
  go_wp2_with fail
  refine (below_end A N c bs m _ O_l.out HM.out.1 HM.out.2).mono ?_
  rintro e w2 ⟨Ax, cx, rfl, hx, hb⟩
  clear a_d b_d
  have ha := hb.alloc hb.size (.cells #[.slice Ax N cx, .int .i64 (N : Int)] 24)
  have han := (Below.refl w2.heap.size w2).alloc (Nat.le_refl _) (.cells #[.slice Ax N cx, .int .i64 (N : Int)] 24)
  replace K_d := Lib.hid (K_d.out.below ha K_d.out.lt)
  replace O_l := Lib.hid (O_l.out.below ha)
  replace O_w := Lib.hid (O_w.out.below ha)
  replace BB := Lib.hid (below3 BB.out ha)
  have O_x := Lib.hid (hx.below han)
  have K_x := Lib.hid (Bk.new w2 24 #[.slice Ax N cx, .int .i64 (N : Int)])
  clear ha hb han hx
  have a_d := K_d.out.c0
  have b_d := K_d.out.c1
  go_wp2_with fail
  refine (order_no A N c N n _ (by omega) (fun h => HN.out h.2.2)).mono ?_
  rintro e w3 ⟨Ay, cy, By, dy, rfl, -, -, hb⟩
  clear a_d b_d
  have ha := hb.alloc hb.size (.cells #[.slice Ay 0 cy, .int .i64 0] 24)
  have han := (Below.refl w3.heap.size w3).alloc (Nat.le_refl _) (.cells #[.slice Ay 0 cy, .int .i64 0] 24)
  replace K_d := Lib.hid (K_d.out.below ha K_d.out.lt)
  replace K_x := Lib.hid (K_x.out.below ha K_x.out.lt)
  replace O_l := Lib.hid (O_l.out.below ha)
  replace O_w := Lib.hid (O_w.out.below ha)
  replace O_x := Lib.hid (O_x.out.below ha)
  replace BB := Lib.hid (below3 BB.out ha)
  have K_y := Lib.hid (Bk.new w3 24 #[.slice Ay 0 cy, .int .i64 0])
  clear ha hb han
  have a_d := K_d.out.c0
  have b_d := K_d.out.c1
  go_wp2_with fail
  refine (heavy_end A B N c k d bs ws _ O_l.out O_w.out HG.out).mono ?_
  rintro e w4 ⟨Az, cz, rfl, hz, hb⟩
  clear a_d b_d
  have ha := hb.alloc hb.size (.cells #[.slice Az N cz, .int .i64 (N : Int)] 24)
  have han := (Below.refl w4.heap.size w4).alloc (Nat.le_refl _) (.cells #[.slice Az N cz, .int .i64 (N : Int)] 24)
  replace K_d := Lib.hid (K_d.out.below ha K_d.out.lt)
  replace K_x := Lib.hid (K_x.out.below ha K_x.out.lt)
  replace K_y := Lib.hid (K_y.out.below ha K_y.out.lt)
  replace O_l := Lib.hid (O_l.out.below ha)
  replace O_w := Lib.hid (O_w.out.below ha)
  replace O_x := Lib.hid (O_x.out.below ha)
  replace BB := Lib.hid (below3 BB.out ha)
  have O_z := Lib.hid (hz.below han)
  have K_z := Lib.hid (Bk.new w4 24 #[.slice Az N cz, .int .i64 (N : Int)])
  clear ha hb han hz
  have a_d := K_d.out.c0
  have b_d := K_d.out.c1
  have a_x := K_x.out.c0
  have b_x := K_x.out.c1
  go_wp2_with fail
  refine (same_yes _ _ N _ _ N bs _ O_x.out O_l.out).mono ?_
  rintro e w5 ⟨rfl, hb⟩
  clear a_d b_d a_x b_x
  have ha := hb
  replace K_d := Lib.hid (K_d.out.below ha K_d.out.lt)
  replace K_x := Lib.hid (K_x.out.below ha K_x.out.lt)
  replace K_y := Lib.hid (K_y.out.below ha K_y.out.lt)
  replace K_z := Lib.hid (K_z.out.below ha K_z.out.lt)
  replace O_l := Lib.hid (O_l.out.below ha)
  replace O_w := Lib.hid (O_w.out.below ha)
  replace O_x := Lib.hid (O_x.out.below ha)
  replace O_z := Lib.hid (O_z.out.below ha)
  replace BB := Lib.hid (below3 BB.out ha)
  clear ha hb
  have a_d := K_d.out.c0
  have b_d := K_d.out.c1
  obtain ⟨g1, g2, g3, g4⟩ := weightE_zero HG.out
  have G2 := Lib.hid g2
  have G4 := Lib.hid g4
  clear g1 g2 g3 g4
  go_wp2
  go_loop [86] (fun t => ∃ q : Nat, q ≤ k ∧ t = .int .i64 q ∧ Hid (pre ws q = 0)) (fun t => k - (intOf t).toNat)
  case atStart => exact ⟨0, Nat.zero_le _, rfl, Lib.hid (pre_zero _)⟩
  case round =>
    obtain ⟨q, hq, rfl, HP⟩ := hrel
    by_cases hlt : q < k
    · have hql : q < ws.length := by rw [O_w.out.1]; exact hlt
      have hx := G2.out _ (List.getElem_mem hql)
      rw [← nth_get hql] at hx
      obtain ⟨-, -, -, hc⟩ := O_w.out
      obtain ⟨bb, o, rfl, -, hcell⟩ := hc (by omega)
      have c1 := hcell q hlt
      clear hcell hc
      by_cases hy : 0 < nth ws q
      · have HK : Hid (pick ws 0 = q) := Lib.hid (ends_place (fun x hx => (G2.out x hx).1) hql HP.out hy)
        rw [HK.out]
        clear hx hql
        have a_d := K_d.out.c0
        have b_d := K_d.out.c1
        have a_z := K_z.out.c0
        have b_z := K_z.out.c1
        go_wp2_with fail
        refine (same_yes _ _ N _ _ N bs _ O_z.out O_l.out).mono ?_
        rintro e w6 ⟨rfl, hb⟩
        clear a_d b_d a_z b_z
        have ha := hb
        replace K_d := Lib.hid (K_d.out.below ha K_d.out.lt)
        replace K_x := Lib.hid (K_x.out.below ha K_x.out.lt)
        replace K_y := Lib.hid (K_y.out.below ha K_y.out.lt)
        replace K_z := Lib.hid (K_z.out.below ha K_z.out.lt)
        replace O_l := Lib.hid (O_l.out.below ha)
        replace O_w := Lib.hid (O_w.out.below ha)
        replace O_x := Lib.hid (O_x.out.below ha)
        replace O_z := Lib.hid (O_z.out.below ha)
        replace BB := Lib.hid (below3 BB.out ha)
        clear ha hb
        go_wp2
        go_ret
        exact ⟨rfl, BB.out⟩
      · have HP2 : Hid (pre ws (q + 1) = 0) := Lib.hid (by rw [pre_succ hql, HP.out]; omega)
        clear hx hql
        go_wp2
        go_round
        case rel => exact ⟨q + 1, by omega, by go_num, HP2⟩
        case measure => simp [intOf]; omega
    · exfalso
      have h1 := HP.out
      have h2 := G4.out
      rw [← pre_all, O_w.out.1, show k = q by omega, h1] at h2
      omega

set_option maxRecDepth 100000 in
set_option maxHeartbeats 2000000 in
theorem ends_100 (A B : Option Addr) (N c k d : Nat) (m n : Int) (bs ws : List Int) (w : World) (ho : Octs w A N bs) (hw : Ints w B k ws) (hN : N ≤ 300) (hk : k ≤ 200) (hm : 1 ≤ m ∧ m ≤ 65536) (hn : ¬ (0 ≤ n ∧ n ≤ 256)) (hg : weightE ws ≠ 0) :
    Calls Try.prog 7 #[.slice A N c, .int .i64 m, .int .i64 n, .slice B k d] w (TrueAns w) := by
  have O_l := Lib.hid ho
  have O_w := Lib.hid hw
  have BB := Lib.hid (Below.refl w.heap.size w)
  have HM := Lib.hid hm
  have HN := Lib.hid hn
  have HG := Lib.hid hg
  obtain ⟨E, hE⟩ : ∃ E, weightE ws = E := ⟨_, rfl⟩
  have hE0 : E ≠ 0 := hE ▸ hg
  have HE := Lib.hid hE
  have e9 : (E != 0) = true := by simpa using hE0
  clear hE
  clear ho hw hm hn hg
  go_enter Try.func7, Try.ntmps7
  go_wp2_with fail
  refine (live_any _).mono ?_
  rintro e w1 ⟨rfl, hb⟩
  have ha := hb.alloc hb.size (.cells #[.slice A N c, .int .i64 (N : Int)] 24)
  have han := (Below.refl w1.heap.size w1).alloc (Nat.le_refl _) (.cells #[.slice A N c, .int .i64 (N : Int)] 24)
  replace O_l := Lib.hid (O_l.out.below ha)
  replace O_w := Lib.hid (O_w.out.below ha)
  replace BB := Lib.hid (below3 BB.out ha)
  have K_d := Lib.hid (Bk.new w1 24 #[.slice A N c, .int .i64 (N : Int)])
  clear ha hb han
  have a_d := K_d.out.c0
  have b_d := K_d.out.c1
  go_wp2_with fail
  refine (below_end A N c bs m _ O_l.out HM.out.1 HM.out.2).mono ?_
  rintro e w2 ⟨Ax, cx, rfl, hx, hb⟩
  clear a_d b_d
  have ha := hb.alloc hb.size (.cells #[.slice Ax N cx, .int .i64 (N : Int)] 24)
  have han := (Below.refl w2.heap.size w2).alloc (Nat.le_refl _) (.cells #[.slice Ax N cx, .int .i64 (N : Int)] 24)
  replace K_d := Lib.hid (K_d.out.below ha K_d.out.lt)
  replace O_l := Lib.hid (O_l.out.below ha)
  replace O_w := Lib.hid (O_w.out.below ha)
  replace BB := Lib.hid (below3 BB.out ha)
  have O_x := Lib.hid (hx.below han)
  have K_x := Lib.hid (Bk.new w2 24 #[.slice Ax N cx, .int .i64 (N : Int)])
  clear ha hb han hx
  have a_d := K_d.out.c0
  have b_d := K_d.out.c1
  go_wp2_with fail
  refine (order_no A N c N n _ (by omega) (fun h => HN.out h.2.2)).mono ?_
  rintro e w3 ⟨Ay, cy, By, dy, rfl, -, -, hb⟩
  clear a_d b_d
  have ha := hb.alloc hb.size (.cells #[.slice Ay 0 cy, .int .i64 0] 24)
  have han := (Below.refl w3.heap.size w3).alloc (Nat.le_refl _) (.cells #[.slice Ay 0 cy, .int .i64 0] 24)
  replace K_d := Lib.hid (K_d.out.below ha K_d.out.lt)
  replace K_x := Lib.hid (K_x.out.below ha K_x.out.lt)
  replace O_l := Lib.hid (O_l.out.below ha)
  replace O_w := Lib.hid (O_w.out.below ha)
  replace O_x := Lib.hid (O_x.out.below ha)
  replace BB := Lib.hid (below3 BB.out ha)
  have K_y := Lib.hid (Bk.new w3 24 #[.slice Ay 0 cy, .int .i64 0])
  clear ha hb han
  have a_d := K_d.out.c0
  have b_d := K_d.out.c1
  go_wp2_with fail
  refine (heavy_no A B N c k d N ws E _ (by omega) (by omega) O_w.out HE.out hE0).mono ?_
  rintro e w4 ⟨Az, cz, rfl, -, hb⟩
  clear a_d b_d
  have ha := hb.alloc hb.size (.cells #[.slice Az 0 cz, .int .i64 0] 24)
  have han := (Below.refl w4.heap.size w4).alloc (Nat.le_refl _) (.cells #[.slice Az 0 cz, .int .i64 0] 24)
  replace K_d := Lib.hid (K_d.out.below ha K_d.out.lt)
  replace K_x := Lib.hid (K_x.out.below ha K_x.out.lt)
  replace K_y := Lib.hid (K_y.out.below ha K_y.out.lt)
  replace O_l := Lib.hid (O_l.out.below ha)
  replace O_w := Lib.hid (O_w.out.below ha)
  replace O_x := Lib.hid (O_x.out.below ha)
  replace BB := Lib.hid (below3 BB.out ha)
  have K_z := Lib.hid (Bk.new w4 24 #[.slice Az 0 cz, .int .i64 0])
  clear ha hb han
  have a_d := K_d.out.c0
  have b_d := K_d.out.c1
  have a_x := K_x.out.c0
  have b_x := K_x.out.c1
  go_wp2_with fail
  refine (same_yes _ _ N _ _ N bs _ O_x.out O_l.out).mono ?_
  rintro e w5 ⟨rfl, hb⟩
  clear a_d b_d a_x b_x
  have ha := hb
  replace K_d := Lib.hid (K_d.out.below ha K_d.out.lt)
  replace K_x := Lib.hid (K_x.out.below ha K_x.out.lt)
  replace K_y := Lib.hid (K_y.out.below ha K_y.out.lt)
  replace K_z := Lib.hid (K_z.out.below ha K_z.out.lt)
  replace O_l := Lib.hid (O_l.out.below ha)
  replace O_w := Lib.hid (O_w.out.below ha)
  replace O_x := Lib.hid (O_x.out.below ha)
  replace BB := Lib.hid (below3 BB.out ha)
  clear ha hb
  have a_d := K_d.out.c0
  have b_d := K_d.out.c1
  go_wp2
  go_ret
  exact ⟨rfl, BB.out⟩

set_option maxRecDepth 100000 in
set_option maxHeartbeats 2000000 in
theorem ends_011 (A B : Option Addr) (N c k d : Nat) (m n : Int) (bs ws : List Int) (w : World) (ho : Octs w A N bs) (hw : Ints w B k ws) (hN : N ≤ 300) (hk : k ≤ 200) (hm : ¬ (1 ≤ m ∧ m ≤ 65536)) (hn : 0 ≤ n ∧ n ≤ 256) (hg : weightE ws = 0) :
    Calls Try.prog 7 #[.slice A N c, .int .i64 m, .int .i64 n, .slice B k d] w (TrueAns w) := by
  have O_l := Lib.hid ho
  have O_w := Lib.hid hw
  have BB := Lib.hid (Below.refl w.heap.size w)
  have HM := Lib.hid hm
  have HN := Lib.hid hn
  have HG := Lib.hid hg
  clear ho hw hm hn hg
  go_enter Try.func7, Try.ntmps7
  go_wp2_with fail
  refine (live_any _).mono ?_
  rintro e w1 ⟨rfl, hb⟩
  have ha := hb.alloc hb.size (.cells #[.slice A N c, .int .i64 (N : Int)] 24)
  have han := (Below.refl w1.heap.size w1).alloc (Nat.le_refl _) (.cells #[.slice A N c, .int .i64 (N : Int)] 24)
  replace O_l := Lib.hid (O_l.out.below ha)
  replace O_w := Lib.hid (O_w.out.below ha)
  replace BB := Lib.hid (below3 BB.out ha)
  have K_d := Lib.hid (Bk.new w1 24 #[.slice A N c, .int .i64 (N : Int)])
  clear ha hb han
  have a_d := K_d.out.c0
  have b_d := K_d.out.c1
  go_wp2_with fail
  refine (below_no A N c N m _ (by omega) (fun h => HM.out h.2.2)).mono ?_
  rintro e w2 ⟨Ax, cx, rfl, -, hb⟩
  clear a_d b_d
  have ha := hb.alloc hb.size (.cells #[.slice Ax 0 cx, .int .i64 0] 24)
  have han := (Below.refl w2.heap.size w2).alloc (Nat.le_refl _) (.cells #[.slice Ax 0 cx, .int .i64 0] 24)
  replace K_d := Lib.hid (K_d.out.below ha K_d.out.lt)
  replace O_l := Lib.hid (O_l.out.below ha)
  replace O_w := Lib.hid (O_w.out.below ha)
  replace BB := Lib.hid (below3 BB.out ha)
  have K_x := Lib.hid (Bk.new w2 24 #[.slice Ax 0 cx, .int .i64 0])
  clear ha hb han
  have a_d := K_d.out.c0
  have b_d := K_d.out.c1
  go_wp2_with fail
  refine (order_end A N c bs n _ O_l.out HN.out.1 HN.out.2).mono ?_
  rintro e w3 ⟨l, Ay, cy, By, dy, ny, rfl, hl, hy, hb⟩
  clear a_d b_d
  have ha := hb.alloc hb.size (.cells #[.slice Ay N cy, .int .i64 (N : Int)] 24)
  have han := (Below.refl w3.heap.size w3).alloc (Nat.le_refl _) (.cells #[.slice Ay N cy, .int .i64 (N : Int)] 24)
  replace K_d := Lib.hid (K_d.out.below ha K_d.out.lt)
  replace K_x := Lib.hid (K_x.out.below ha K_x.out.lt)
  replace O_l := Lib.hid (O_l.out.below ha)
  replace O_w := Lib.hid (O_w.out.below ha)
  replace BB := Lib.hid (below3 BB.out ha)
  have O_lo := Lib.hid (hl.below han)
  have O_y := Lib.hid (hy.below han)
  have K_y := Lib.hid (Bk.new w3 24 #[.slice Ay N cy, .int .i64 (N : Int)])
  clear ha hb han hl hy
  have a_d := K_d.out.c0
  have b_d := K_d.out.c1
  go_wp2_with fail
  refine (heavy_end A B N c k d bs ws _ O_l.out O_w.out HG.out).mono ?_
  rintro e w4 ⟨Az, cz, rfl, hz, hb⟩
  clear a_d b_d
  have ha := hb.alloc hb.size (.cells #[.slice Az N cz, .int .i64 (N : Int)] 24)
  have han := (Below.refl w4.heap.size w4).alloc (Nat.le_refl _) (.cells #[.slice Az N cz, .int .i64 (N : Int)] 24)
  replace K_d := Lib.hid (K_d.out.below ha K_d.out.lt)
  replace K_x := Lib.hid (K_x.out.below ha K_x.out.lt)
  replace K_y := Lib.hid (K_y.out.below ha K_y.out.lt)
  replace O_l := Lib.hid (O_l.out.below ha)
  replace O_w := Lib.hid (O_w.out.below ha)
  replace O_lo := Lib.hid (O_lo.out.below ha)
  replace O_y := Lib.hid (O_y.out.below ha)
  replace BB := Lib.hid (below3 BB.out ha)
  have O_z := Lib.hid (hz.below han)
  have K_z := Lib.hid (Bk.new w4 24 #[.slice Az N cz, .int .i64 (N : Int)])
  clear ha hb han hz
  have a_d := K_d.out.c0
  have b_d := K_d.out.c1
  have a_y := K_y.out.c0
  have b_y := K_y.out.c1
  go_wp2_with fail
  refine (same_yes _ _ N _ _ N bs _ O_y.out O_l.out).mono ?_
  rintro e w5 ⟨rfl, hb⟩
  clear a_d b_d a_y b_y
  have ha := hb
  replace K_d := Lib.hid (K_d.out.below ha K_d.out.lt)
  replace K_x := Lib.hid (K_x.out.below ha K_x.out.lt)
  replace K_y := Lib.hid (K_y.out.below ha K_y.out.lt)
  replace K_z := Lib.hid (K_z.out.below ha K_z.out.lt)
  replace O_l := Lib.hid (O_l.out.below ha)
  replace O_w := Lib.hid (O_w.out.below ha)
  replace O_lo := Lib.hid (O_lo.out.below ha)
  replace O_y := Lib.hid (O_y.out.below ha)
  replace O_z := Lib.hid (O_z.out.below ha)
  replace BB := Lib.hid (below3 BB.out ha)
  clear ha hb
  obtain ⟨g1, g2, g3, g4⟩ := weightE_zero HG.out
  have G2 := Lib.hid g2
  have G4 := Lib.hid g4
  clear g1 g2 g3 g4
  go_wp2
  go_loop [86] (fun t => ∃ q : Nat, q ≤ k ∧ t = .int .i64 q ∧ Hid (pre ws q = 0)) (fun t => k - (intOf t).toNat)
  case atStart => exact ⟨0, Nat.zero_le _, rfl, Lib.hid (pre_zero _)⟩
  case round =>
    obtain ⟨q, hq, rfl, HP⟩ := hrel
    by_cases hlt : q < k
    · have hql : q < ws.length := by rw [O_w.out.1]; exact hlt
      have hx := G2.out _ (List.getElem_mem hql)
      rw [← nth_get hql] at hx
      obtain ⟨-, -, -, hc⟩ := O_w.out
      obtain ⟨bb, o, rfl, -, hcell⟩ := hc (by omega)
      have c1 := hcell q hlt
      clear hcell hc
      by_cases hy : 0 < nth ws q
      · have HK : Hid (pick ws 0 = q) := Lib.hid (ends_place (fun x hx => (G2.out x hx).1) hql HP.out hy)
        rw [HK.out]
        clear hx hql
        have a_d := K_d.out.c0
        have b_d := K_d.out.c1
        have a_z := K_z.out.c0
        have b_z := K_z.out.c1
        go_wp2_with fail
        refine (same_yes _ _ N _ _ N bs _ O_z.out O_l.out).mono ?_
        rintro e w6 ⟨rfl, hb⟩
        clear a_d b_d a_z b_z
        have ha := hb
        replace K_d := Lib.hid (K_d.out.below ha K_d.out.lt)
        replace K_x := Lib.hid (K_x.out.below ha K_x.out.lt)
        replace K_y := Lib.hid (K_y.out.below ha K_y.out.lt)
        replace K_z := Lib.hid (K_z.out.below ha K_z.out.lt)
        replace O_l := Lib.hid (O_l.out.below ha)
        replace O_w := Lib.hid (O_w.out.below ha)
        replace O_lo := Lib.hid (O_lo.out.below ha)
        replace O_y := Lib.hid (O_y.out.below ha)
        replace O_z := Lib.hid (O_z.out.below ha)
        replace BB := Lib.hid (below3 BB.out ha)
        clear ha hb
        go_wp2
        go_ret
        exact ⟨rfl, BB.out⟩
      · have HP2 : Hid (pre ws (q + 1) = 0) := Lib.hid (by rw [pre_succ hql, HP.out]; omega)
        clear hx hql
        go_wp2
        go_round
        case rel => exact ⟨q + 1, by omega, by go_num, HP2⟩
        case measure => simp [intOf]; omega
    · exfalso
      have h1 := HP.out
      have h2 := G4.out
      rw [← pre_all, O_w.out.1, show k = q by omega, h1] at h2
      omega

set_option maxRecDepth 100000 in
set_option maxHeartbeats 2000000 in
theorem ends_010 (A B : Option Addr) (N c k d : Nat) (m n : Int) (bs ws : List Int) (w : World) (ho : Octs w A N bs) (hw : Ints w B k ws) (hN : N ≤ 300) (hk : k ≤ 200) (hm : ¬ (1 ≤ m ∧ m ≤ 65536)) (hn : 0 ≤ n ∧ n ≤ 256) (hg : weightE ws ≠ 0) :
    Calls Try.prog 7 #[.slice A N c, .int .i64 m, .int .i64 n, .slice B k d] w (TrueAns w) := by
  have O_l := Lib.hid ho
  have O_w := Lib.hid hw
  have BB := Lib.hid (Below.refl w.heap.size w)
  have HM := Lib.hid hm
  have HN := Lib.hid hn
  have HG := Lib.hid hg
  obtain ⟨E, hE⟩ : ∃ E, weightE ws = E := ⟨_, rfl⟩
  have hE0 : E ≠ 0 := hE ▸ hg
  have HE := Lib.hid hE
  have e9 : (E != 0) = true := by simpa using hE0
  clear hE
  clear ho hw hm hn hg
  go_enter Try.func7, Try.ntmps7
  go_wp2_with fail
  refine (live_any _).mono ?_
  rintro e w1 ⟨rfl, hb⟩
  have ha := hb.alloc hb.size (.cells #[.slice A N c, .int .i64 (N : Int)] 24)
  have han := (Below.refl w1.heap.size w1).alloc (Nat.le_refl _) (.cells #[.slice A N c, .int .i64 (N : Int)] 24)
  replace O_l := Lib.hid (O_l.out.below ha)
  replace O_w := Lib.hid (O_w.out.below ha)
  replace BB := Lib.hid (below3 BB.out ha)
  have K_d := Lib.hid (Bk.new w1 24 #[.slice A N c, .int .i64 (N : Int)])
  clear ha hb han
  have a_d := K_d.out.c0
  have b_d := K_d.out.c1
  go_wp2_with fail
  refine (below_no A N c N m _ (by omega) (fun h => HM.out h.2.2)).mono ?_
  rintro e w2 ⟨Ax, cx, rfl, -, hb⟩
  clear a_d b_d
  have ha := hb.alloc hb.size (.cells #[.slice Ax 0 cx, .int .i64 0] 24)
  have han := (Below.refl w2.heap.size w2).alloc (Nat.le_refl _) (.cells #[.slice Ax 0 cx, .int .i64 0] 24)
  replace K_d := Lib.hid (K_d.out.below ha K_d.out.lt)
  replace O_l := Lib.hid (O_l.out.below ha)
  replace O_w := Lib.hid (O_w.out.below ha)
  replace BB := Lib.hid (below3 BB.out ha)
  have K_x := Lib.hid (Bk.new w2 24 #[.slice Ax 0 cx, .int .i64 0])
  clear ha hb han
  have a_d := K_d.out.c0
  have b_d := K_d.out.c1
  go_wp2_with fail
  refine (order_end A N c bs n _ O_l.out HN.out.1 HN.out.2).mono ?_
  rintro e w3 ⟨l, Ay, cy, By, dy, ny, rfl, hl, hy, hb⟩
  clear a_d b_d
  have ha := hb.alloc hb.size (.cells #[.slice Ay N cy, .int .i64 (N : Int)] 24)
  have han := (Below.refl w3.heap.size w3).alloc (Nat.le_refl _) (.cells #[.slice Ay N cy, .int .i64 (N : Int)] 24)
  replace K_d := Lib.hid (K_d.out.below ha K_d.out.lt)
  replace K_x := Lib.hid (K_x.out.below ha K_x.out.lt)
  replace O_l := Lib.hid (O_l.out.below ha)
  replace O_w := Lib.hid (O_w.out.below ha)
  replace BB := Lib.hid (below3 BB.out ha)
  have O_lo := Lib.hid (hl.below han)
  have O_y := Lib.hid (hy.below han)
  have K_y := Lib.hid (Bk.new w3 24 #[.slice Ay N cy, .int .i64 (N : Int)])
  clear ha hb han hl hy
  have a_d := K_d.out.c0
  have b_d := K_d.out.c1
  go_wp2_with fail
  refine (heavy_no A B N c k d N ws E _ (by omega) (by omega) O_w.out HE.out hE0).mono ?_
  rintro e w4 ⟨Az, cz, rfl, -, hb⟩
  clear a_d b_d
  have ha := hb.alloc hb.size (.cells #[.slice Az 0 cz, .int .i64 0] 24)
  have han := (Below.refl w4.heap.size w4).alloc (Nat.le_refl _) (.cells #[.slice Az 0 cz, .int .i64 0] 24)
  replace K_d := Lib.hid (K_d.out.below ha K_d.out.lt)
  replace K_x := Lib.hid (K_x.out.below ha K_x.out.lt)
  replace K_y := Lib.hid (K_y.out.below ha K_y.out.lt)
  replace O_l := Lib.hid (O_l.out.below ha)
  replace O_w := Lib.hid (O_w.out.below ha)
  replace O_lo := Lib.hid (O_lo.out.below ha)
  replace O_y := Lib.hid (O_y.out.below ha)
  replace BB := Lib.hid (below3 BB.out ha)
  have K_z := Lib.hid (Bk.new w4 24 #[.slice Az 0 cz, .int .i64 0])
  clear ha hb han
  have a_d := K_d.out.c0
  have b_d := K_d.out.c1
  have a_y := K_y.out.c0
  have b_y := K_y.out.c1
  go_wp2_with fail
  refine (same_yes _ _ N _ _ N bs _ O_y.out O_l.out).mono ?_
  rintro e w5 ⟨rfl, hb⟩
  clear a_d b_d a_y b_y
  have ha := hb
  replace K_d := Lib.hid (K_d.out.below ha K_d.out.lt)
  replace K_x := Lib.hid (K_x.out.below ha K_x.out.lt)
  replace K_y := Lib.hid (K_y.out.below ha K_y.out.lt)
  replace K_z := Lib.hid (K_z.out.below ha K_z.out.lt)
  replace O_l := Lib.hid (O_l.out.below ha)
  replace O_w := Lib.hid (O_w.out.below ha)
  replace O_lo := Lib.hid (O_lo.out.below ha)
  replace O_y := Lib.hid (O_y.out.below ha)
  replace BB := Lib.hid (below3 BB.out ha)
  clear ha hb
  go_wp2
  go_ret
  exact ⟨rfl, BB.out⟩

set_option maxRecDepth 100000 in
set_option maxHeartbeats 2000000 in
theorem ends_001 (A B : Option Addr) (N c k d : Nat) (m n : Int) (bs ws : List Int) (w : World) (ho : Octs w A N bs) (hw : Ints w B k ws) (hN : N ≤ 300) (hk : k ≤ 200) (hm : ¬ (1 ≤ m ∧ m ≤ 65536)) (hn : ¬ (0 ≤ n ∧ n ≤ 256)) (hg : weightE ws = 0) :
    Calls Try.prog 7 #[.slice A N c, .int .i64 m, .int .i64 n, .slice B k d] w (TrueAns w) := by
  have O_l := Lib.hid ho
  have O_w := Lib.hid hw
  have BB := Lib.hid (Below.refl w.heap.size w)
  have HM := Lib.hid hm
  have HN := Lib.hid hn
  have HG := Lib.hid hg
  clear ho hw hm hn hg
  go_enter Try.func7, Try.ntmps7
  go_wp2_with fail
  refine (live_any _).mono ?_
  rintro e w1 ⟨rfl, hb⟩
  have ha := hb.alloc hb.size (.cells #[.slice A N c, .int .i64 (N : Int)] 24)
  have han := (Below.refl w1.heap.size w1).alloc (Nat.le_refl _) (.cells #[.slice A N c, .int .i64 (N : Int)] 24)
  replace O_l := Lib.hid (O_l.out.below ha)
  replace O_w := Lib.hid (O_w.out.below ha)
  replace BB := Lib.hid (below3 BB.out ha)
  have K_d := Lib.hid (Bk.new w1 24 #[.slice A N c, .int .i64 (N : Int)])
  clear ha hb han
  have a_d := K_d.out.c0
  have b_d := K_d.out.c1
  go_wp2_with fail
  refine (below_no A N c N m _ (by omega) (fun h => HM.out h.2.2)).mono ?_
  rintro e w2 ⟨Ax, cx, rfl, -, hb⟩
  clear a_d b_d
  have ha := hb.alloc hb.size (.cells #[.slice Ax 0 cx, .int .i64 0] 24)
  have han := (Below.refl w2.heap.size w2).alloc (Nat.le_refl _) (.cells #[.slice Ax 0 cx, .int .i64 0] 24)
  replace K_d := Lib.hid (K_d.out.below ha K_d.out.lt)
  replace O_l := Lib.hid (O_l.out.below ha)
  replace O_w := Lib.hid (O_w.out.below ha)
  replace BB := Lib.hid (below3 BB.out ha)
  have K_x := Lib.hid (Bk.new w2 24 #[.slice Ax 0 cx, .int .i64 0])
  clear ha hb han
  have a_d := K_d.out.c0
  have b_d := K_d.out.c1
  go_wp2_with fail
  refine (order_no A N c N n _ (by omega) (fun h => HN.out h.2.2)).mono ?_
  rintro e w3 ⟨Ay, cy, By, dy, rfl, -, -, hb⟩
  clear a_d b_d
  have ha := hb.alloc hb.size (.cells #[.slice Ay 0 cy, .int .i64 0] 24)
  have han := (Below.refl w3.heap.size w3).alloc (Nat.le_refl _) (.cells #[.slice Ay 0 cy, .int .i64 0] 24)
  replace K_d := Lib.hid (K_d.out.below ha K_d.out.lt)
  replace K_x := Lib.hid (K_x.out.below ha K_x.out.lt)
  replace O_l := Lib.hid (O_l.out.below ha)
  replace O_w := Lib.hid (O_w.out.below ha)
  replace BB := Lib.hid (below3 BB.out ha)
  have K_y := Lib.hid (Bk.new w3 24 #[.slice Ay 0 cy, .int .i64 0])
  clear ha hb han
  have a_d := K_d.out.c0
  have b_d := K_d.out.c1
  go_wp2_with fail
  refine (heavy_end A B N c k d bs ws _ O_l.out O_w.out HG.out).mono ?_
  rintro e w4 ⟨Az, cz, rfl, hz, hb⟩
  clear a_d b_d
  have ha := hb.alloc hb.size (.cells #[.slice Az N cz, .int .i64 (N : Int)] 24)
  have han := (Below.refl w4.heap.size w4).alloc (Nat.le_refl _) (.cells #[.slice Az N cz, .int .i64 (N : Int)] 24)
  replace K_d := Lib.hid (K_d.out.below ha K_d.out.lt)
  replace K_x := Lib.hid (K_x.out.below ha K_x.out.lt)
  replace K_y := Lib.hid (K_y.out.below ha K_y.out.lt)
  replace O_l := Lib.hid (O_l.out.below ha)
  replace O_w := Lib.hid (O_w.out.below ha)
  replace BB := Lib.hid (below3 BB.out ha)
  have O_z := Lib.hid (hz.below han)
  have K_z := Lib.hid (Bk.new w4 24 #[.slice Az N cz, .int .i64 (N : Int)])
  clear ha hb han hz
  have a_d := K_d.out.c0
  have b_d := K_d.out.c1
  obtain ⟨g1, g2, g3, g4⟩ := weightE_zero HG.out
  have G2 := Lib.hid g2
  have G4 := Lib.hid g4
  clear g1 g2 g3 g4
  go_wp2
  go_loop [86] (fun t => ∃ q : Nat, q ≤ k ∧ t = .int .i64 q ∧ Hid (pre ws q = 0)) (fun t => k - (intOf t).toNat)
  case atStart => exact ⟨0, Nat.zero_le _, rfl, Lib.hid (pre_zero _)⟩
  case round =>
    obtain ⟨q, hq, rfl, HP⟩ := hrel
    by_cases hlt : q < k
    · have hql : q < ws.length := by rw [O_w.out.1]; exact hlt
      have hx := G2.out _ (List.getElem_mem hql)
      rw [← nth_get hql] at hx
      obtain ⟨-, -, -, hc⟩ := O_w.out
      obtain ⟨bb, o, rfl, -, hcell⟩ := hc (by omega)
      have c1 := hcell q hlt
      clear hcell hc
      by_cases hy : 0 < nth ws q
      · have HK : Hid (pick ws 0 = q) := Lib.hid (ends_place (fun x hx => (G2.out x hx).1) hql HP.out hy)
        rw [HK.out]
        clear hx hql
        have a_d := K_d.out.c0
        have b_d := K_d.out.c1
        have a_z := K_z.out.c0
        have b_z := K_z.out.c1
        go_wp2_with fail
        refine (same_yes _ _ N _ _ N bs _ O_z.out O_l.out).mono ?_
        rintro e w5 ⟨rfl, hb⟩
        clear a_d b_d a_z b_z
        have ha := hb
        replace K_d := Lib.hid (K_d.out.below ha K_d.out.lt)
        replace K_x := Lib.hid (K_x.out.below ha K_x.out.lt)
        replace K_y := Lib.hid (K_y.out.below ha K_y.out.lt)
        replace K_z := Lib.hid (K_z.out.below ha K_z.out.lt)
        replace O_l := Lib.hid (O_l.out.below ha)
        replace O_w := Lib.hid (O_w.out.below ha)
        replace O_z := Lib.hid (O_z.out.below ha)
        replace BB := Lib.hid (below3 BB.out ha)
        clear ha hb
        go_wp2
        go_ret
        exact ⟨rfl, BB.out⟩
      · have HP2 : Hid (pre ws (q + 1) = 0) := Lib.hid (by rw [pre_succ hql, HP.out]; omega)
        clear hx hql
        go_wp2
        go_round
        case rel => exact ⟨q + 1, by omega, by go_num, HP2⟩
        case measure => simp [intOf]; omega
    · exfalso
      have h1 := HP.out
      have h2 := G4.out
      rw [← pre_all, O_w.out.1, show k = q by omega, h1] at h2
      omega

set_option maxRecDepth 100000 in
set_option maxHeartbeats 2000000 in
theorem ends_000 (A B : Option Addr) (N c k d : Nat) (m n : Int) (bs ws : List Int) (w : World) (ho : Octs w A N bs) (hw : Ints w B k ws) (hN : N ≤ 300) (hk : k ≤ 200) (hm : ¬ (1 ≤ m ∧ m ≤ 65536)) (hn : ¬ (0 ≤ n ∧ n ≤ 256)) (hg : weightE ws ≠ 0) :
    Calls Try.prog 7 #[.slice A N c, .int .i64 m, .int .i64 n, .slice B k d] w (TrueAns w) := by
  have O_l := Lib.hid ho
  have O_w := Lib.hid hw
  have BB := Lib.hid (Below.refl w.heap.size w)
  have HM := Lib.hid hm
  have HN := Lib.hid hn
  have HG := Lib.hid hg
  obtain ⟨E, hE⟩ : ∃ E, weightE ws = E := ⟨_, rfl⟩
  have hE0 : E ≠ 0 := hE ▸ hg
  have HE := Lib.hid hE
  have e9 : (E != 0) = true := by simpa using hE0
  clear hE
  clear ho hw hm hn hg
  go_enter Try.func7, Try.ntmps7
  go_wp2_with fail
  refine (live_any _).mono ?_
  rintro e w1 ⟨rfl, hb⟩
  have ha := hb.alloc hb.size (.cells #[.slice A N c, .int .i64 (N : Int)] 24)
  have han := (Below.refl w1.heap.size w1).alloc (Nat.le_refl _) (.cells #[.slice A N c, .int .i64 (N : Int)] 24)
  replace O_l := Lib.hid (O_l.out.below ha)
  replace O_w := Lib.hid (O_w.out.below ha)
  replace BB := Lib.hid (below3 BB.out ha)
  have K_d := Lib.hid (Bk.new w1 24 #[.slice A N c, .int .i64 (N : Int)])
  clear ha hb han
  have a_d := K_d.out.c0
  have b_d := K_d.out.c1
  go_wp2_with fail
  refine (below_no A N c N m _ (by omega) (fun h => HM.out h.2.2)).mono ?_
  rintro e w2 ⟨Ax, cx, rfl, -, hb⟩
  clear a_d b_d
  have ha := hb.alloc hb.size (.cells #[.slice Ax 0 cx, .int .i64 0] 24)
  have han := (Below.refl w2.heap.size w2).alloc (Nat.le_refl _) (.cells #[.slice Ax 0 cx, .int .i64 0] 24)
  replace K_d := Lib.hid (K_d.out.below ha K_d.out.lt)
  replace O_l := Lib.hid (O_l.out.below ha)
  replace O_w := Lib.hid (O_w.out.below ha)
  replace BB := Lib.hid (below3 BB.out ha)
  have K_x := Lib.hid (Bk.new w2 24 #[.slice Ax 0 cx, .int .i64 0])
  clear ha hb han
  have a_d := K_d.out.c0
  have b_d := K_d.out.c1
  go_wp2_with fail
  refine (order_no A N c N n _ (by omega) (fun h => HN.out h.2.2)).mono ?_
  rintro e w3 ⟨Ay, cy, By, dy, rfl, -, -, hb⟩
  clear a_d b_d
  have ha := hb.alloc hb.size (.cells #[.slice Ay 0 cy, .int .i64 0] 24)
  have han := (Below.refl w3.heap.size w3).alloc (Nat.le_refl _) (.cells #[.slice Ay 0 cy, .int .i64 0] 24)
  replace K_d := Lib.hid (K_d.out.below ha K_d.out.lt)
  replace K_x := Lib.hid (K_x.out.below ha K_x.out.lt)
  replace O_l := Lib.hid (O_l.out.below ha)
  replace O_w := Lib.hid (O_w.out.below ha)
  replace BB := Lib.hid (below3 BB.out ha)
  have K_y := Lib.hid (Bk.new w3 24 #[.slice Ay 0 cy, .int .i64 0])
  clear ha hb han
  have a_d := K_d.out.c0
  have b_d := K_d.out.c1
  go_wp2_with fail
  refine (heavy_no A B N c k d N ws E _ (by omega) (by omega) O_w.out HE.out hE0).mono ?_
  rintro e w4 ⟨Az, cz, rfl, -, hb⟩
  clear a_d b_d
  have ha := hb.alloc hb.size (.cells #[.slice Az 0 cz, .int .i64 0] 24)
  have han := (Below.refl w4.heap.size w4).alloc (Nat.le_refl _) (.cells #[.slice Az 0 cz, .int .i64 0] 24)
  replace K_d := Lib.hid (K_d.out.below ha K_d.out.lt)
  replace K_x := Lib.hid (K_x.out.below ha K_x.out.lt)
  replace K_y := Lib.hid (K_y.out.below ha K_y.out.lt)
  replace O_l := Lib.hid (O_l.out.below ha)
  replace O_w := Lib.hid (O_w.out.below ha)
  replace BB := Lib.hid (below3 BB.out ha)
  have K_z := Lib.hid (Bk.new w4 24 #[.slice Az 0 cz, .int .i64 0])
  clear ha hb han
  have a_d := K_d.out.c0
  have b_d := K_d.out.c1
  go_wp2
  go_ret
  exact ⟨rfl, BB.out⟩

theorem ends_any (A B : Option Addr) (N c k d : Nat) (m n : Int) (bs ws : List Int) (w : World) (hM : N ≤ 9223372036854775807) (ho : N ≤ 140737488351232 → Octs w A N bs) (hw : Ints w B k ws) :
    Calls Try.prog 7 #[.slice A N c, .int .i64 m, .int .i64 n, .slice B k d] w (TrueAns w) := by
  by_cases h : 300 < N ∨ 200 < k
  · exact ends_big A B N c k d m n w hM hw.2.1 h
  · have hN : N ≤ 300 := by omega
    have hk : k ≤ 200 := by omega
    have ho := ho (by omega)
    by_cases hm : 1 ≤ m ∧ m ≤ 65536 <;> by_cases hn : 0 ≤ n ∧ n ≤ 256 <;> by_cases hg : weightE ws = 0
    · exact ends_111 A B N c k d m n bs ws w ho hw hN hk hm hn hg
    · exact ends_110 A B N c k d m n bs ws w ho hw hN hk hm hn hg
    · exact ends_101 A B N c k d m n bs ws w ho hw hN hk hm hn hg
    · exact ends_100 A B N c k d m n bs ws w ho hw hN hk hm hn hg
    · exact ends_011 A B N c k d m n bs ws w ho hw hN hk hm hn hg
    · exact ends_010 A B N c k d m n bs ws w ho hw hN hk hm hn hg
    · exact ends_001 A B N c k d m n bs ws w ho hw hN hk hm hn hg
    · exact ends_000 A B N c k d m n bs ws w ho hw hN hk hm hn hg

end Go.Proofs.Ytllanhboaoedmaa

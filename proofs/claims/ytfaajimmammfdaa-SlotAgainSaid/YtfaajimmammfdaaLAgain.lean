/-
  The walk of the law SlotAgain of layer 5.
-/
import Derived.Test.YtfaajimmammfdaaLive
import Derived.Test.YtfaajimmammfdaaPh
import Derived.Deep.LoopGhost
namespace Go.Proofs.Ytfaajimmammfdaa
open Go.RowKit

/-- The relation of the loop: what is free yet, in a variable of the law's own; k rounds at most are to come. -/
def SARel (W : World) (g m i : Nat) (gs : List Int) (k : Nat) (wr : World) : Prop :=
  ∃ A c B d L, PV W wr g A m c B m d gs L ∧ Hid (okS gs L ∧ bth L i = false ∧ k + hereN L m = m)

set_option maxRecDepth 100000 in
set_option maxHeartbeats 4000000 in
theorem lagain_long (A B : Option Addr) (n c m d : Nat) (id : Int) (w : World) (hn : n ≤ 9223372036854775807) (hm : m ≤ 9223372036854775807) (h : 400 < n ∨ 400 < m) :
    Calls Try.prog 7 #[.agg #[.slice A n c, .slice B m d], .int .i64 id] w (TrueAns w) := by
  have K0 := Lib.hid (Bk.new w 25 #[.slice A n c, .slice B m d])
  have B0 := Lib.hid ((Below.refl w.heap.size w).alloc (Nat.le_refl _) (.cells #[.slice A n c, .slice B m d] 25))
  by_cases h1 : 400 < n
  · clear h
    go_enter Try.func7, Try.ntmps7
    go_wp2_with fail
    refine (live_any _).mono ?_
    rintro e w1 ⟨rfl, hb1⟩
    have HB1 := Lib.hid (below3 B0.out hb1)
    have K1 := K0.out.below hb1 K0.out.lt
    clear hb1
    have a0 := K1.c0
    have a1 := K1.c1
    clear K1
    go_wp2
    go_ret
    exact ⟨rfl, HB1.out⟩
  · have h2 : 400 < m := by omega
    clear h
    go_enter Try.func7, Try.ntmps7
    go_wp2_with fail
    refine (live_any _).mono ?_
    rintro e w1 ⟨rfl, hb1⟩
    have HB1 := Lib.hid (below3 B0.out hb1)
    have K1 := K0.out.below hb1 K0.out.lt
    clear hb1
    have a0 := K1.c0
    have a1 := K1.c1
    clear K1
    go_wp2
    go_ret
    exact ⟨rfl, HB1.out⟩

set_option maxRecDepth 100000 in
set_option maxHeartbeats 4000000 in
theorem lagain_no (A B : Option Addr) (n c m d : Nat) (gs : List Int) (ls : List Bool) (id er : Int) (w : World) (hp : Plc w A n B m gs ls) (hid : Fit id) (hn : n ≤ 400) (hm : m ≤ 400) (he : findE gs ls id = er) (h : er = 1 ∨ er = 5 ∨ er = 8) :
    Calls Try.prog 7 #[.agg #[.slice A n c, .slice B m d], .int .i64 id] w (TrueAns w) := by
  have K0 := Lib.hid (Bk.new w 25 #[.slice A n c, .slice B m d])
  have hb0 := (Below.refl w.heap.size w).alloc (Nat.le_refl _) (.cells #[.slice A n c, .slice B m d] 25)
  have B0 := Lib.hid hb0
  have HP := Lib.hid (hp.below hb0)
  have HE := Lib.hid he
  have HN0 : Hid (findN gs ls id = 0) := Lib.hid (by rw [findN, if_neg (by omega)])
  have HF : Hid (freeF gs ls id = ([], [], er)) := Lib.hid (by rw [freeF_no (by omega), he])
  have h0 : (er != 0) = true := by rcases h with rfl | rfl | rfl <;> rfl
  clear hp he h hb0
  go_enter Try.func7, Try.ntmps7
  go_wp2_with fail
  refine (live_any _).mono ?_
  rintro e w1 ⟨rfl, hb1⟩
  have HB1 := Lib.hid (below3 B0.out hb1)
  have HP1 := Lib.hid (HP.out.below hb1)
  have K1 := Lib.hid (K0.out.below hb1 K0.out.lt)
  clear hb1
  have a0 := K1.out.c0
  have a1 := K1.out.c1
  go_wp2_with fail
  refine (find_any A B n c m d gs ls id _ HP1.out hid).mono ?_
  rintro e w2 ⟨rfl, hb2⟩
  rw [HE.out, HN0.out]
  have HB2 := Lib.hid (below3 HB1.out hb2)
  have HP2 := Lib.hid (HP1.out.below hb2)
  have K2 := Lib.hid (K1.out.below hb2 K1.out.lt)
  clear hb2 a0 a1 K1
  have a0 := K2.out.c0
  have a1 := K2.out.c1
  go_wp2_with fail
  refine (free_any A B n c m d gs ls id _ HP2.out hid).mono ?_
  rw [HF.out]
  rintro e w3 ⟨A3, c3, B3, d3, rfl, ho3, hb3⟩
  have HB3 := Lib.hid (below3 HB2.out (hb3.alloc hb3.size (.cells #[.slice A3 0 c3, .slice B3 0 d3] 25)))
  clear hb3 a0 a1 ho3
  go_wp2
  go_ret
  exact ⟨rfl, HB3.out⟩

set_option maxRecDepth 100000 in
set_option maxHeartbeats 4000000 in
theorem lagain_yes (A B : Option Addr) (n c m d : Nat) (gs : List Int) (ls : List Bool) (i : Nat) (w : World) (hp : Plc w A n B m gs ls) (hn : n ≤ 400) (hm : m ≤ 400) (h : okS gs ls) (hi : i < gs.length) (hl : bth ls i = true) :
    Calls Try.prog 7 #[.agg #[.slice A n c, .slice B m d], .int .i64 (idP gs i)] w (TrueAns w) := by
  have K0 := Lib.hid (Bk.new w 25 #[.slice A n c, .slice B m d])
  have hb0 := (Below.refl w.heap.size w).alloc (Nat.le_refl _) (.cells #[.slice A n c, .slice B m d] 25)
  have B0 := Lib.hid hb0
  have hmn : m = n := by have := h.2.2.1; have := hp.g.1; have := hp.l.1; omega
  subst hmn
  have HP := Lib.hid (hp.below hb0)
  have hN := hp.g.1
  have hM := hp.l.1
  have him : i < m := by omega
  have hm2 : m ≤ 256 := by have := h.2.1; omega
  obtain ⟨f1, f2, f3⟩ := freeF_at h hi hl
  have hok1 := ok_free h hl
  have hst := freed_stale h hi hl
  have hfd : findN (gs.set i (nth gs i + 1)) (ls.set i false) (idP gs i) = 0 := by rw [findN, hst]; simp
  have hb1 : bth (ls.set i false) i = false := by rw [bth_set _ _ _ _ (by omega), if_pos rfl]
  have hh : hereN (ls.set i false) m ≤ m := hereN_le _ _
  obtain ⟨x, hx⟩ : ∃ x, nth gs i = x := ⟨_, rfl⟩
  have hg := h.2.2.2 i hi
  have hg1 := hg.2.2 hl
  have hnew : nth (gs.set i (nth gs i + 1)) i = x + 1 := by rw [nth_put _ _ _ _ hi, if_pos rfl, hx]
  have hidd : idP gs i = 256 * x + (i : Int) := by rw [← hx]; rfl
  obtain ⟨id, hid⟩ : ∃ id, idP gs i = id := ⟨_, rfl⟩
  rw [hx] at hg hg1
  have hx0 := hg.1
  have hlen1 : (gs.set i (nth gs i + 1)).length = m := by rw [List.length_set]; exact hN
  have hlen2 : (ls.set i false).length = m := by rw [List.length_set]; exact hM
  obtain ⟨gs1, hgs1⟩ : ∃ gs1, gs.set i (nth gs i + 1) = gs1 := ⟨_, rfl⟩
  obtain ⟨ls1, hls1⟩ : ∃ ls1, ls.set i false = ls1 := ⟨_, rfl⟩
  rw [hgs1] at f3 hok1 hst hfd hnew hlen1
  rw [hls1] at f3 hok1 hst hfd hb1 hh hlen2
  rw [hid] at f1 f2 f3 hst hfd hidd ⊢
  have hid0 : 0 ≤ id := by omega
  have hid1 : id ≤ 281474976710655 := by omega
  have HIDD := Lib.hid hidd
  have HFX : Hid (Fit id) := Lib.hid (by unfold Fit; omega)
  have F1 := Lib.hid f1
  have F2 := Lib.hid f2
  have F3 := Lib.hid f3
  have HST := Lib.hid hst
  have HFD := Lib.hid hfd
  have HNEW := Lib.hid hnew
  have L1 := Lib.hid hlen1
  have L2 := Lib.hid hlen2
  have HOK1 := Lib.hid hok1
  have HBI := Lib.hid hb1
  clear hp h hi hl hb0 f1 f2 f3 hok1 hst hfd hb1 hx hnew hidd hid hlen1 hlen2 hgs1 hls1 hN hM hg
  go_enter Try.func7, Try.ntmps7
  go_wp2_with fail
  refine (live_any _).mono ?_
  rintro e w1 ⟨rfl, hb1⟩
  have HB1 := Lib.hid (below3 B0.out hb1)
  have HP1 := Lib.hid (HP.out.below hb1)
  have K1 := Lib.hid (K0.out.below hb1 K0.out.lt)
  clear hb1
  have a0 := K1.out.c0
  have a1 := K1.out.c1
  go_wp2_with fail
  refine (find_any A B m c m d gs ls id _ HP1.out HFX.out).mono ?_
  rintro e w2 ⟨rfl, hb2⟩
  rw [F1.out, F2.out]
  have HB2 := Lib.hid (below3 HB1.out hb2)
  have HP2 := Lib.hid (HP1.out.below hb2)
  have K2 := Lib.hid (K1.out.below hb2 K1.out.lt)
  clear hb2 a0 a1 K1
  have a0 := K2.out.c0
  have a1 := K2.out.c1
  go_wp2_with fail
  refine (free_any A B m c m d gs ls id _ HP2.out HFX.out).mono ?_
  rw [F3.out]
  rintro e w3 ⟨A3, c3, B3, d3, rfl, ho3, hb3⟩
  have V3 := Lib.hid (PV.new HB2.out hb3 ho3 L1.out L2.out)
  have X3 := hb3.alloc hb3.size (.cells #[.slice A3 m c3, .slice B3 m d3] 25)
  have K3 := Lib.hid (K2.out.below X3 K2.out.lt)
  simp only [L1.out, L2.out]
  clear hb3 a0 a1 ho3 K2 X3
  have a0 := K3.out.c0
  have a1 := K3.out.c1
  have v0 := V3.out.box.c0
  have v1 := V3.out.box.c1
  go_wp2_with fail
  refine (find_any A3 B3 m c3 m d3 gs1 ls1 id _ V3.out.plc HFX.out).mono ?_
  rintro e w4 ⟨rfl, hb4⟩
  rw [HST.out, HFD.out]
  have V4 := Lib.hid (V3.out.call hb4)
  clear hb4 a0 a1 v0 v1 K3 V3
  go_wp2
  go_loopg [] (m - hereN ls1 m) (fun k wr => SARel w w3.heap.size m i gs1 k wr)
  case atStart => exact ⟨A3, c3, B3, d3, ls1, V4.out, Lib.hid ⟨HOK1.out, HBI.out, by omega⟩⟩
  case round =>
    obtain ⟨D, c', E, d', L, hv, HL⟩ := hrel
    have V := Lib.hid hv
    clear hv
    have a0 := V.out.box.c0
    have a1 := V.out.box.c1
    have hLm := V.out.lm
    have hGm := V.out.ln
    rcases first_or gs1 L with ⟨j, hj⟩ | hf
    · have HJ := Lib.hid hj
      have HT := Lib.hid (takeF_first HL.out.1 hj)
      have hjm : j < m := by have := hj.1; omega
      have hgj := HL.out.1.2.2.2 j hj.1
      obtain ⟨y, hy⟩ : ∃ y, idP gs1 j = y := ⟨_, rfl⟩
      have hyp := (id_place (gs := gs1) (i := j) (by omega)).1
      have hyd : idP gs1 j = 256 * nth gs1 j + (j : Int) := rfl
      rw [hy] at hyp hyd
      have hy0 : 0 ≤ y := by omega
      have HYD := Lib.hid hyd
      have HYY := Lib.hid hy
      have LS : Hid ((L.set j true).length = m) := Lib.hid ((List.length_set ..).trans hLm)
      have LG := Lib.hid hGm
      clear hj hgj hy hyd hLm hGm
      go_wp2_with fail
      refine (take_any D E m c' m d' gs1 L _ V.out.plc).mono ?_
      rw [HT.out]
      rintro e w5 ⟨A5, c5, B5, d5, rfl, ho5, hb5⟩
      have X5 := hb5.alloc hb5.size (.cells #[.slice A5 m c5, .slice B5 m d5] 25)
      have O5 := Lib.hid (ho5.below ((Below.refl w5.heap.size w5).alloc (Nat.le_refl _) (.cells #[.slice A5 m c5, .slice B5 m d5] 25)))
      have BX := Lib.hid X5
      have k5 := V.out.call hb5
      have k6 := k5.var (.cells #[.slice A5 m c5, .slice B5 m d5] 25)
      simp only [HYY.out, LG.out, LS.out]
      clear hb5 X5 ho5 a0 a1
      by_cases hji : j = i
      · subst hji
        have hxe : (y == id + 256) = true := by
          have := HYD.out
          have h1 := HNEW.out
          have h2 := HIDD.out
          rw [h1] at this
          simp; omega
        have HB := Lib.hid k6.below
        clear k5 k6
        go_wp2
        go_ret
        exact ⟨rfl, HB.out⟩
      · have hne : ((j : Int) == (i : Int)) = false := by simp; omega
        have V6 := Lib.hid (V.out.store (n' := m) (m' := m) BX.out O5.out LG.out LS.out)
        have c0 := k5.box.c0
        have c1 := k5.box.c1
        have f0 := k6.box.frozen 0
        have f1 := k6.box.frozen 1
        have d0 := k6.box.c0
        have d1 := k6.box.c1
        have n1 : ¬ (w3.heap.size = w5.heap.size) := by have := k5.box.lt; omega
        have HL2 : Hid (okS gs1 (L.set j true) ∧ bth (L.set j true) i = false ∧ (gk - 1) + hereN (L.set j true) m = m) := Lib.hid (by
          refine ⟨ok_take HL.out.1 HJ.out, by rw [bth_set _ _ _ _ (by rw [V.out.lm]; exact him), if_neg hji]; exact HL.out.2.1, ?_⟩
          have h1 := here_take V.out.lm hjm HJ.out.2.1.1
          have h2 := hereN_le (L.set j true) m
          have h3 := HL.out.2.2
          omega)
        have hgk : gk - 1 < gk := by
          have h1 := here_take V.out.lm hjm HJ.out.2.1.1
          have h2 := hereN_le (L.set j true) m
          have h3 := HL.out.2.2
          omega
        clear k5 k6 V
        go_wp2
        go_roundg (gk - 1)
        case measure => exact hgk
        case rel => exact ⟨A5, c5, B5, d5, L.set j true, V6.out, HL2⟩
    · have HT := Lib.hid (takeF_full HL.out.1 hf)
      have hig : i < gs1.length := by omega
      have hge := (HL.out.1.2.2.2 i hig).2.1
      have hmx : nth gs1 i = 1099511627776 := by
        have h1 := hf i hig
        have h2 : ¬ (nth gs1 i < 1099511627776) := fun h => h1 ⟨HL.out.2.1, h⟩
        omega
      obtain ⟨b, o, rfl, hb, hc⟩ := V.out.plc.g.2.2.2 (by omega)
      have cc := hc i him
      rw [hmx] at cc
      have CB := Lib.hid hb
      clear hf hig hge hmx hc hb hLm hGm
      go_wp2_with fail
      refine (take_any _ E m c' m d' gs1 L _ V.out.plc).mono ?_
      rw [HT.out]
      rintro e w5 ⟨A5, c5, B5, d5, rfl, ho5, hb5⟩
      have k5 := (V.out.call hb5).var (.cells #[.slice A5 0 c5, .slice B5 0 d5] 25)
      have c1 := ((hb5.alloc hb5.size (.cells #[.slice A5 0 c5, .slice B5 0 d5] 25)).cell (p := ⟨b, o + i, none⟩) CB.out).trans cc
      have HB := Lib.hid k5.below
      have a2 := k5.box.c0
      have a3 := k5.box.c1
      have k4 := V.out.call hb5
      have a4 := k4.box.c0
      have a5 := k4.box.c1
      have n1 : ¬ (w3.heap.size = w5.heap.size) := by have := k4.box.lt; omega
      have n2 : ¬ (b = w5.heap.size) := by have := CB.out; have := hb5.size; omega
      have c4 := (hb5.cell (p := ⟨b, o + i, none⟩) CB.out).trans cc
      clear hb5 ho5 k5 k4 a0 a1 cc
      go_wp2
      go_ret
      exact ⟨rfl, HB.out⟩

theorem lagain_any (A B : Option Addr) (n c m d : Nat) (gs : List Int) (ls : List Bool) (id : Int) (w : World) (hn : n ≤ 9223372036854775807) (hm : m ≤ 9223372036854775807) (hp : n ≤ 400 → m ≤ 400 → Plc w A n B m gs ls) (hid : Fit id) :
    Calls Try.prog 7 #[.agg #[.slice A n c, .slice B m d], .int .i64 id] w (TrueAns w) := by
  by_cases h : 400 < n ∨ 400 < m
  · exact lagain_long A B n c m d id w hn hm h
  · by_cases he : findE gs ls id = 0
    · obtain ⟨hok, i, hi, hl, rfl⟩ := find_ok.1 he
      exact lagain_yes A B n c m d gs ls i w (hp (by omega) (by omega)) (by omega) (by omega) hok hi hl
    · refine lagain_no A B n c m d gs ls id (findE gs ls id) w (hp (by omega) (by omega)) hid (by omega) (by omega) rfl ?_
      rcases findE_pos (gs := gs) (ls := ls) (id := id) with e | e | e | e
      · exact absurd e he
      · exact .inl e
      · exact .inr (.inl e)
      · exact .inr (.inr e)

end Go.Proofs.Ytfaajimmammfdaa

/-
  The document's answer of layer 2, numbers of a sign and sixteen parts: the contract of Mul.
-/
import Derived.Test.YtaaffpeppdinhaaBigSum
namespace Go.Proofs.Ytaaffpeppdinhaa
open Go.RowKit

theorem lies4 (w : World) (c d e f : Array Value) (t : TypeId) : Bk ((((w.alloc (.cells c t)).alloc (.cells d t)).alloc (.cells e t)).alloc (.cells f t)) w.heap.size t c ∧ Bk ((((w.alloc (.cells c t)).alloc (.cells d t)).alloc (.cells e t)).alloc (.cells f t)) (w.heap.size + 1) t d ∧
    Bk ((((w.alloc (.cells c t)).alloc (.cells d t)).alloc (.cells e t)).alloc (.cells f t)) (w.heap.size + 1 + 1) t e ∧ Bk ((((w.alloc (.cells c t)).alloc (.cells d t)).alloc (.cells e t)).alloc (.cells f t)) (w.heap.size + 1 + 1 + 1) t f ∧
    Below w.heap.size w ((((w.alloc (.cells c t)).alloc (.cells d t)).alloc (.cells e t)).alloc (.cells f t)) := by
  obtain ⟨h1, h2, h3, h4⟩ := lies3 w c d e t
  refine ⟨h1.alloc _, h2.alloc _, h3.alloc _, ?_, below_alloc h4 _⟩
  have := Bk.new (((w.alloc (.cells c t)).alloc (.cells d t)).alloc (.cells e t)) t f
  simpa using this

/-- How far a product's loops have come: what its block holds now. -/
def MulI (w wr : World) (sg : Bool) (A B : Array Value) (Q : List Int → Prop) : Prop := ∃ C cc, BigC cc sg C ∧ Q C ∧ Bk wr w.heap.size 44 A ∧ Bk wr (w.heap.size + 1) 44 B ∧
  Bk wr (w.heap.size + 1 + 1) 44 (zc false) ∧ Bk wr (w.heap.size + 1 + 1 + 1) 44 cc ∧ Below w.heap.size w wr

/-- A store into the product's block. -/
theorem MulI.put {w wr : World} {sg : Bool} {A B : Array Value} {Q' : List Int → Prop} {C : List Int} {cc : Array Value} (hb : BigC cc sg C) (k1 : Bk wr w.heap.size 44 A) (k2 : Bk wr (w.heap.size + 1) 44 B)
    (k3 : Bk wr (w.heap.size + 1 + 1) 44 (zc false)) (k4 : Bk wr (w.heap.size + 1 + 1 + 1) 44 cc) (bw : Below w.heap.size w wr) (t : Nat) (v : Int) (hq : Q' (C.set t v)) :
    MulI w (wr.setCell ⟨w.heap.size + 1 + 1 + 1, 1 + t, none⟩ (.int .u64 v)) sg A B Q' :=
  ⟨C.set t v, _, hb.set_part t v, hq, k1.far (by simp <;> omega) _, k2.far (by simp <;> omega) _, k3.far (by simp <;> omega) _, k4.set_ _ _, bw.setCell (by simp <;> omega) _⟩

set_option maxHeartbeats 4000000 in
theorem mul_parts (A B : Array Value) (m n sg : Bool) (K L : List Int) (w : World) (ha : BigC A m K) (hb : BigC B n L) (dK : Dig K) (dL : Dig L) (hsg : (!m == n) = sg) (z : Int)
    (vK : val K < 65536 ^ 8) (vL : val L < 65536 ^ 8)
    (hG : ∀ cc C, BigC cc sg C → Dig C → val C = val K * val L → (val C ≠ 0 → Big cc z) ∧ (val C = 0 → Big (cc.setIfInBounds 0 (.bool false)) z)) :
    Calls Try.prog 33 #[.agg A, .agg B] w (BigAns z w) := by
  have a0 := ha.sign
  have b0 := hb.sign
  have HA := Lib.hid ha
  have HB := Lib.hid hb
  have DK := Lib.hid dK
  have DL := Lib.hid dL
  have VK := Lib.hid (pre_small dK (by rw [ha.2]; omega) vK)
  have VL := Lib.hid (pre_small dL (by rw [hb.2]; omega) vL)
  have PV : Hid (val K * val L < 65536 ^ 16) := by
    have h1 := (val_bd dK).1
    have h2 := (val_bd dL).1
    have := Int.mul_le_mul (a := val K) (b := val L) (c := 65536 ^ 8 - 1) (d := 65536 ^ 8 - 1) (by omega) (by omega) h2 (by omega)
    exact Lib.hid (by omega)
  have HG := Lib.hid hG
  clear ha hb dK dL vK vL hG
  go_enter Try.func33, Try.ntmps33
  go_upto_block 0 with fail
  obtain ⟨l1, l2, l3, l4, l5⟩ := lies4 w A B (zc false) (zc sg) 44
  generalize hX : ((((w.alloc (.cells A 44)).alloc (.cells B 44)).alloc (.cells (zc false) 44)).alloc (.cells (zc sg) 44)) = X at l1 l2 l3 l4 l5
  unfold zc at hX
  rw [hX]
  have L1 := Lib.hid l1
  have L2 := Lib.hid l2
  have L3 := Lib.hid l3
  have L4 := Lib.hid l4
  have L5 := Lib.hid l5
  clear hX l1 l2 l3 l4 l5 hsg
  go_cut [] from 16 to 41 (fun wx => MulI w wx sg A B (fun C => Conv K L C 8 0))
  case first =>
    go_wp2_with fail
    go_loopg [16] 8 (fun k x wr => ∃ i : Nat, i ≤ 8 ∧ k = 8 - i ∧ x = .int .i64 i ∧ MulI w wr sg A B (fun C => Conv K L C i 0))
    case atStart => exact ⟨0, by omega, by omega, rfl, _, _, big_zero sg, conv_zero K L, L1.out, L2.out, L3.out, L4.out, L5.out⟩
    case round =>
      obtain ⟨i, hi, rfl, rfl, hM⟩ := hrel
      have HM := Lib.hid hM
      clear hM
      by_cases h : i < 8
      · go_wp2_with fail
        go_loopg [19] 8 (fun k x wr => ∃ j : Nat, j ≤ 8 ∧ k = 8 - j ∧ x = .int .i64 j ∧ MulI w wr sg A B (fun C => Conv K L C i j))
        case atStart => exact ⟨0, by omega, by omega, rfl, HM.out⟩
        case round =>
          clear HM
          obtain ⟨j, hj, rfl, rfl, C, cc, hb, hq, j1, j2, j3, j4, bw⟩ := hrel
          have HC := Lib.hid hb
          have HQ := Lib.hid hq
          have J1 := Lib.hid j1
          have J2 := Lib.hid j2
          have J3 := Lib.hid j3
          have J4 := Lib.hid j4
          have BR := Lib.hid bw
          clear hb hq j1 j2 j3 j4 bw
          by_cases h2 : j < 8
          · obtain ⟨t, ht⟩ : ∃ t, t = i + j := ⟨_, rfl⟩
            have ht16 : t < 16 := by omega
            have x1 : wr.cell? ⟨w.heap.size, 1 + i, none⟩ = some (.int .u64 (nth K i)) := (J1.out.cell _).trans (HA.out.part (by omega))
            have x2 : wr.cell? ⟨w.heap.size + 1, 1 + j, none⟩ = some (.int .u64 (nth L j)) := (J2.out.cell _).trans (HB.out.part (by omega))
            have x3 : wr.cell? ⟨w.heap.size + 1 + 1 + 1, 1 + t, none⟩ = some (.int .u64 (nth C t)) := (J4.out.cell _).trans (HC.out.part ht16)
            have f3 := J4.out.frozen (1 + t)
            have w1 : IntKind.i64.wrap ((i : Int) + (j : Int)) = (t : Int) := by rw [IntKind.wrap_i64, ht]; omega
            have b2 : (t : Int) < 16 := by omega
            have b3 : (i : Int) < 16 := by omega
            have b4 : (j : Int) < 16 := by omega
            have hp := dig_mul (DK.out.nth i) (DL.out.nth j)
            have hcb := HQ.out.2.1 t ht16
            have w2 : IntKind.u64.wrap (nth K i * nth L j) = nth K i * nth L j := by rw [IntKind.wrap_u64]; omega
            obtain ⟨v, hv⟩ : ∃ v, v = nth C t + nth K i * nth L j := ⟨_, rfl⟩
            have w3 : IntKind.u64.wrap (nth C t + nth K i * nth L j) = v := by rw [IntKind.wrap_u64, hv]; omega
            have HN := Lib.hid (conv_step DK.out DL.out HB.out.2 h h2 HQ.out)
            rw [← ht, ← hv] at HN
            clear hv hcb hp ht
            go_wp2_with fail
            go_region
            go_wp2
            go_roundg (8 - (j + 1))
            case measure => omega
            case rel => exact ⟨j + 1, by omega, by omega, by go_num, MulI.put (wr := wr.drew) HC.out J1.out.drew J2.out.drew J3.out.drew J4.out.drew BR.out.drew t v HN.out⟩
          · obtain rfl : j = 8 := by omega
            go_wp2
            go_roundg (8 - (i + 1))
            case measure => omega
            case rel => exact ⟨i + 1, by omega, by omega, by go_num, C, cc, HC.out, conv_row HA.out.2 h HQ.out, J1.out, J2.out, J3.out, J4.out, BR.out⟩
      · obtain rfl : i = 8 := by omega
        go_wp2
        go_meet
        exact HM.out
  case rest =>
    obtain ⟨C0, c0, hb, hq, j1, j2, j3, j4, bw⟩ := hcut
    have HC0 := Lib.hid hb
    have HQ0 := Lib.hid (carry_start hq)
    have E0 := conv_end hq
    rw [VK.out, VL.out] at E0
    rw [E0] at HQ0
    have J1 := Lib.hid j1
    have J2 := Lib.hid j2
    have J3 := Lib.hid j3
    have J4 := Lib.hid j4
    have BR := Lib.hid bw
    clear hb hq j1 j2 j3 j4 bw E0 L1 L2 L3 L4 L5
    go_wp2_with fail
    go_loopg [8, 42] 16 (fun k y x wr => ∃ i : Nat, i ≤ 16 ∧ k = 16 - i ∧ x = .int .i64 i ∧ ∃ over, y = .int .u64 over ∧ MulI w wr sg A B (fun C => Carry C (val K * val L) over i))
    case atStart => exact ⟨0, by omega, by omega, rfl, 0, rfl, C0, c0, HC0.out, HQ0.out, J1.out, J2.out, J3.out, J4.out, BR.out⟩
    case round =>
      clear J1 J2 J3 J4 BR HC0 HQ0
      obtain ⟨i, hi, rfl, rfl, over, rfl, C, cc, hb, hq, j1, j2, j3, j4, bw⟩ := hrel
      have HC := Lib.hid hb
      have HQ := Lib.hid hq
      have J1 := Lib.hid j1
      have J2 := Lib.hid j2
      have J3 := Lib.hid j3
      have J4 := Lib.hid j4
      have BR := Lib.hid bw
      clear hb hq j1 j2 j3 j4 bw
      by_cases h : i < 16
      · have x3 : wr.cell? ⟨w.heap.size + 1 + 1 + 1, 1 + i, none⟩ = some (.int .u64 (nth C i)) := (J4.out.cell _).trans (HC.out.part h)
        have f3 := J4.out.frozen (1 + i)
        have b3 : (i : Int) < 16 := by omega
        have p1 := HQ.out.2.1
        have p2 := HQ.out.2.2.1
        have p3 := HQ.out.2.2.2.2.1 i h
        obtain ⟨v, hv⟩ : ∃ v, v = over + nth C i := ⟨_, rfl⟩
        have w3 : IntKind.u64.wrap (over + nth C i) = v := by rw [IntKind.wrap_u64, hv]; omega
        have v0 : 0 ≤ v := by omega
        have v1 : v ≤ 824633720832 := by omega
        have HN := Lib.hid (carry_step h HQ.out)
        rw [← hv] at HN
        clear hv p1 p2 p3
        go_wp2
        go_roundg (16 - (i + 1))
        case measure => omega
        case rel => exact ⟨i + 1, by omega, by omega, by go_num, _, rfl, MulI.put HC.out J1.out J2.out J3.out J4.out BR.out i _ HN.out⟩
      · obtain rfl : i = 16 := by omega
        obtain ⟨g1, g2, g3⟩ := carry_end HQ.out PV.out
        have hbig := HG.out cc C HC.out g1 g3
        have G1 := Lib.hid g1
        have hs := HC.out.size
        have h1 := HC.out.all
        have hs2 := (HC.out.set_sign false).size
        have h2 := (HC.out.set_sign false).all
        have j4 := J4.out
        clear g1 g2 g3
        by_cases h0 : val C = 0
        · have HBG := Lib.hid (hbig.2 h0)
          have HZ := Lib.hid (decide_eq_true h0)
          clear hbig h0
          go_wp2_with (first | (refine wpl_load rfl (.tmp 5) rfl _ rfl j4 hs ?_) | fail)
          refine (zero_parts cc sg C _ HC.out G1.out).mono ?_
          rw [HZ.out]
          rintro e V ⟨rfl, hb2⟩
          have q4 := J4.out.below hb2 J4.out.lt
          have q3 := J3.out.below hb2 J3.out.lt
          have y0 : V.cell? ⟨w.heap.size + 1 + 1 + 1, 0, none⟩ = some (.bool sg) := (q4.cell 0).trans HC.out.sign
          have yf := q4.frozen 0
          have r4 := q4.set_ 0 (.bool false)
          have r3 := q3.far (p := ⟨w.heap.size + 1 + 1 + 1, 0, none⟩) (by simp <;> omega) (.bool false)
          have BB := Lib.hid ((below3 BR.out hb2 (by have := BR.out.size; omega)).setCell (p := ⟨w.heap.size + 1 + 1 + 1, 0, none⟩) (by simp <;> omega) (.bool false))
          clear hb2 q4 q3 j4
          go_wp2_with (first | (refine wpl_load rfl (.tmp 5) rfl _ rfl r4 hs2 ?_) | (refine wpl_store rfl (.tmp 4) (.tmp 62) rfl _ rfl rfl r3 (zc_size false) hs2 h2 ?_))
          exact ret_big Try.results33 rfl rfl (r3.row _) hs2 ⟨_, rfl, HBG.out, below_row BB.out (by omega) _⟩
        · have HBG := Lib.hid (hbig.1 h0)
          have HZ := Lib.hid (decide_eq_false h0)
          clear hbig h0
          go_wp2_with (first | (refine wpl_load rfl (.tmp 5) rfl _ rfl j4 hs ?_) | fail)
          refine (zero_parts cc sg C _ HC.out G1.out).mono ?_
          rw [HZ.out]
          rintro e V ⟨rfl, hb2⟩
          have q4 := J4.out.below hb2 J4.out.lt
          have q3 := J3.out.below hb2 J3.out.lt
          have BB := Lib.hid (below3 BR.out hb2 (by have := BR.out.size; omega))
          clear hb2 j4
          go_wp2_with (first | (refine wpl_load rfl (.tmp 5) rfl _ rfl q4 hs ?_) | (refine wpl_store rfl (.tmp 4) (.tmp 62) rfl _ rfl rfl q3 (zc_size false) hs h1 ?_))
          exact ret_big Try.results33 rfl rfl (q3.row _) hs ⟨_, rfl, HBG.out, below_row BB.out (by omega) _⟩

end Go.Proofs.Ytaaffpeppdinhaa

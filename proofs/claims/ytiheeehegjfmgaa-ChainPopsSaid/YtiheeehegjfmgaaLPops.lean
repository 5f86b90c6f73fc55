/-
  The walk of the law ChainPops of layer 6: popped one by one a list comes in order, till it has none; all other lists stay.
-/
import Derived.Test.YtiheeehegjfmgaaUse
namespace Go.Proofs.Ytiheeehegjfmgaa
open Go.RowKit

set_option maxRecDepth 100000 in
set_option maxHeartbeats 4000000 in
theorem lpops_long (A B D : Option Addr) (n a m b k d : Nat) (list : Int) (w : World) (hn : n ≤ 9223372036854775807) (hm : m ≤ 9223372036854775807) (hk : k ≤ 9223372036854775807) (hf : fewB n m k = false) :
    Calls Try.prog 8 #[.agg #[.slice A n a, .slice B m b, .slice D k d], .int .i64 list] w (TrueAns w) := by
  have BB := Lib.hid ((Below.refl w.heap.size w).alloc (Nat.le_refl _) (.cells #[.slice A n a, .slice B m b, .slice D k d] 24))
  have K_c := Lib.hid (Bk.new w 24 #[.slice A n a, .slice B m b, .slice D k d])
  have HF := Lib.hid hf
  clear hf
  go_enter Try.func8, Try.ntmps8
  go_wp2_with fail
  refine (live_any _).mono ?_
  rintro e w1 ⟨rfl, hb⟩
  have ha := hb
  replace K_c := Lib.hid (K_c.out.below ha K_c.out.lt)
  replace BB := Lib.hid (below3 BB.out ha)
  clear ha hb
  have a_c := K_c.out.e0
  have b_c := K_c.out.e1
  have c_c := K_c.out.e2
  go_wp2_with fail
  refine (few_any A B D n a m b k d _ hn hm hk).mono ?_
  rw [HF.out]
  rintro e w2 ⟨rfl, hb⟩
  clear a_c b_c c_c
  have ha := hb
  replace K_c := Lib.hid (K_c.out.below ha K_c.out.lt)
  replace BB := Lib.hid (below3 BB.out ha)
  clear ha hb
  go_wp2
  go_ret
  exact ⟨rfl, BB.out⟩

set_option maxRecDepth 100000 in
set_option maxHeartbeats 4000000 in
theorem lpops_no (A B D : Option Addr) (n a m b k d : Nat) (next head tail : List Int) (list : Int) (w : World) (hf : fewB n m k = true) (hp : Chn w A n B m D k next head tail)
    (hc : ∀ (A B D : Option Addr) (n a m b k d : Nat) (w : World), Chn w A n B m D k next head tail → Calls Try.prog 23 #[.agg #[.slice A n a, .slice B m b, .slice D k d], .int .i64 list] w (RetIE [] 1 w)) :
    Calls Try.prog 8 #[.agg #[.slice A n a, .slice B m b, .slice D k d], .int .i64 list] w (TrueAns w) := by
  obtain ⟨h1, h2, h3⟩ := fewB_true hf
  obtain rfl := hp.x.1
  obtain rfl := hp.h.1
  obtain rfl := hp.t.1
  have hb0 := (Below.refl w.heap.size w).alloc (Nat.le_refl _) (.cells #[.slice A next.length a, .slice B head.length b, .slice D tail.length d] 24)
  have BB := Lib.hid hb0
  have K_c := Lib.hid (Bk.new w 24 #[.slice A next.length a, .slice B head.length b, .slice D tail.length d])
  have P_c := Lib.hid (hp.below hb0)
  have HF := Lib.hid hf
  have hn : next.length ≤ 9223372036854775807 := by omega
  have hm : head.length ≤ 9223372036854775807 := by omega
  have hk : tail.length ≤ 9223372036854775807 := by omega
  have CW := Lib.hid hc
  clear hp hf hb0 h1 h2 h3 hc
  go_enter Try.func8, Try.ntmps8
  go_wp2_with fail
  refine (live_any _).mono ?_
  rintro e w1 ⟨rfl, hb⟩
  have ha := hb
  replace K_c := Lib.hid (K_c.out.below ha K_c.out.lt)
  replace P_c := Lib.hid (P_c.out.below ha)
  replace BB := Lib.hid (below3 BB.out ha)
  clear ha hb
  have a_c := K_c.out.e0
  have b_c := K_c.out.e1
  have c_c := K_c.out.e2
  go_wp2_with fail
  refine (few_any A B D next.length a head.length b tail.length d _ hn hm hk).mono ?_
  rw [HF.out]
  rintro e w2 ⟨rfl, hb⟩
  clear a_c b_c c_c
  have ha := hb
  replace K_c := Lib.hid (K_c.out.below ha K_c.out.lt)
  replace P_c := Lib.hid (P_c.out.below ha)
  replace BB := Lib.hid (below3 BB.out ha)
  clear ha hb
  have a_c := K_c.out.e0
  have b_c := K_c.out.e1
  have c_c := K_c.out.e2
  go_wp2_with fail
  refine (CW.out A B D next.length a head.length b tail.length d _ P_c.out).mono ?_
  rintro e w3 ⟨Al, al, rfl, ho, hb⟩
  clear a_c b_c c_c
  have ha := hb
  replace K_c := Lib.hid (K_c.out.below ha K_c.out.lt)
  replace P_c := Lib.hid (P_c.out.below ha)
  replace BB := Lib.hid (below3 BB.out ha)
  clear ha hb
  clear ho CW P_c
  go_wp2
  go_ret
  exact ⟨rfl, BB.out⟩

/-- What lies there in the first loop: what is left yet, in the variable in block g. -/
def PopS (qs : List (List Int)) (i g nn : Nat) (V : World) (zs : List Int) (j : Nat) (wr : World) : Prop :=
  ∃ (N H T : List Int) (A B D : Option Addr) (a b d : Nat), N.length = nn ∧ Rep N H T (qs.set i (zs.drop j)) ∧ Chn wr A N.length B H.length D T.length N H T ∧ OffC A N.length B H.length D T.length g ∧
    Bk wr g 24 #[.slice A N.length a, .slice B H.length b, .slice D T.length d] ∧ Below V.heap.size V wr

set_option maxRecDepth 100000 in
set_option maxHeartbeats 8000000 in
theorem lpops_yes (A B D : Option Addr) (n a m b k d : Nat) (next head tail : List Int) (i : Nat) (qs : List (List Int)) (w : World) (hf : fewB n m k = true) (hp : Chn w A n B m D k next head tail) (r : Rep next head tail qs) (hi : i < qs.length) :
    Calls Try.prog 8 #[.agg #[.slice A n a, .slice B m b, .slice D k d], .int .i64 i] w (TrueAns w) := by
  obtain ⟨h1, h2, h3⟩ := fewB_true hf
  obtain rfl := hp.x.1
  obtain rfl := hp.h.1
  obtain rfl := hp.t.1
  have hb0 := (Below.refl w.heap.size w).alloc (Nat.le_refl _) (.cells #[.slice A next.length a, .slice B head.length b, .slice D tail.length d] 24)
  have BB := Lib.hid hb0
  have K_c := Lib.hid (Bk.new w 24 #[.slice A next.length a, .slice B head.length b, .slice D tail.length d])
  have P_c := Lib.hid (hp.below hb0)
  have HF := Lib.hid hf
  have hn : next.length ≤ 9223372036854775807 := by omega
  have hm : head.length ≤ 9223372036854775807 := by omega
  have hk : tail.length ≤ 9223372036854775807 := by omega
  obtain ⟨zs, hzs⟩ : ∃ zs, qth qs i = zs := ⟨_, rfl⟩
  have HZ := Lib.hid hzs
  have R := Lib.hid r
  have HMQ := Lib.hid r.lh
  have h256 := r.l2
  have hz1 : zs.length ≤ 1024 := hzs ▸ r.short hi
  clear hp hf hb0 h1 h2 h3 r hzs
  go_enter Try.func8, Try.ntmps8
  go_wp2_with fail
  refine (live_any _).mono ?_
  rintro e w1 ⟨rfl, hb⟩
  have ha := hb
  replace K_c := Lib.hid (K_c.out.below ha K_c.out.lt)
  replace P_c := Lib.hid (P_c.out.below ha)
  replace BB := Lib.hid (below3 BB.out ha)
  clear ha hb
  have a_c := K_c.out.e0
  have b_c := K_c.out.e1
  have c_c := K_c.out.e2
  go_wp2_with fail
  refine (few_any A B D next.length a head.length b tail.length d _ hn hm hk).mono ?_
  rw [HF.out]
  rintro e w2 ⟨rfl, hb⟩
  clear a_c b_c c_c
  have ha := hb
  replace K_c := Lib.hid (K_c.out.below ha K_c.out.lt)
  replace P_c := Lib.hid (P_c.out.below ha)
  replace BB := Lib.hid (below3 BB.out ha)
  clear ha hb
  have a_c := K_c.out.e0
  have b_c := K_c.out.e1
  have c_c := K_c.out.e2
  clear hn hm hk
  go_wp2_with fail
  refine (walk_ok A B D next.length a head.length b tail.length d next head tail i qs R.out hi _ P_c.out).mono ?_
  rw [HZ.out]
  rintro e w3 ⟨Al, al, rfl, ho, hb⟩
  clear a_c b_c c_c
  have ha := hb
  replace K_c := Lib.hid (K_c.out.below ha K_c.out.lt)
  replace P_c := Lib.hid (P_c.out.below ha)
  replace BB := Lib.hid (below3 BB.out ha)
  have I_l := Lib.hid (ho.ints)
  clear ha hb ho
  have a_c := K_c.out.e0
  have b_c := K_c.out.e1
  have c_c := K_c.out.e2
  have K_n := Lib.hid (Bk.new w3 24 #[.slice A next.length a, .slice B head.length b, .slice D tail.length d])
  have ha := (Below.refl w3.heap.size w3).alloc (Nat.le_refl _) (.cells #[.slice A next.length a, .slice B head.length b, .slice D tail.length d] 24)
  have VC := P_c
  have VK := K_c
  have VL := I_l
  have VB := BB
  have OF := P_c.out.off (Nat.le_refl _)
  have PN := Lib.hid (P_c.out.below ha)
  have BN := Lib.hid ha
  have hg8 : w.heap.size < w3.heap.size := K_c.out.lt
  clear ha P_c K_c I_l BB HF
  go_wp2
  clear a_c b_c c_c
  go_loopw [43] (fun t wr => ∃ j : Nat, j ≤ zs.length ∧ t = .int .i64 j ∧ Hid (PopS qs i w3.heap.size next.length w3 zs j wr)) (fun t _ => zs.length - (intOf t).toNat)
  case atStart => exact ⟨0, Nat.zero_le _, rfl, Lib.hid ⟨next, head, tail, A, B, D, a, b, d, rfl, by rw [List.drop_zero, ← HZ.out, set_qth hi]; exact R.out, PN.out, OF, K_n.out, BN.out⟩⟩
  case round =>
    obtain ⟨j, hj, rfl, HR⟩ := hrel
    obtain ⟨N, H, T, A1, B1, D1, a1, b1, d1, hnn, rj, hc, hoff, hk, hb⟩ := HR.out
    have RJ := Lib.hid rj
    have qj : qth (qs.set i (zs.drop j)) i = zs.drop j := by rw [qth_set _ _ _ _ hi, if_pos rfl]
    clear HR rj
    by_cases hlt : j < zs.length
    · obtain ⟨bz, oz, rfl, hbz, hcz⟩ := (VL.out.below hb).2.2.2 (by omega)
      have cz := hcz j hlt
      have hr0 := RJ.out.rng i 0 (by simpa using hi) (by rw [qj, List.length_drop]; omega)
      have e0 : nth (zs.drop j) 0 = nth zs j := by rw [nth_drop]; rfl
      rw [qj, e0] at hr0
      obtain ⟨x, hx⟩ : ∃ x : Nat, nth zs j = x := ⟨(nth zs j).toNat, by omega⟩
      rw [hx] at cz
      obtain ⟨N2, H2, T2, hl2, r2, c2⟩ := pop_moves RJ.out (i := i) (x := x) (by simpa using hi) (by rw [qj, List.length_drop]; omega) (by rw [qj, e0, hx])
      rw [qj, List.set_set, List.drop_drop] at r2
      have R2 := Lib.hid r2
      have C2 := Lib.hid c2
      have HL := Lib.hid (hl2.trans hnn)
      have PJ := Lib.hid hc
      have KJ := Lib.hid hk
      have BJ := Lib.hid hb
      have hlt8 := KJ.out.lt
      have a_n := hk.e0
      have b_n := hk.e1
      have c_n := hk.e2
      clear hcz hr0 e0 hx hl2 r2 c2 hnn qj hc hoff hk hb hbz RJ
      go_wp2_with fail
      refine (C2.out A1 B1 D1 N.length a1 H.length b1 T.length d1 _ PJ.out).mono ?_
      rintro e w5 ⟨A5, a5, B5, b5, D5, d5, rfl, ho, hb5⟩
      have ha := hb5.alloc hb5.size (.cells #[.slice A5 N2.length a5, .slice B5 H2.length b5, .slice D5 T2.length d5] 24)
      have han := (Below.refl w5.heap.size w5).alloc (Nat.le_refl _) (.cells #[.slice A5 N2.length a5, .slice B5 H2.length b5, .slice D5 T2.length d5] 24)
      have k5 := KJ.out.below hb5 hlt8
      have k6 := KJ.out.below ha hlt8
      have kn := Bk.new w5 24 #[.slice A5 N2.length a5, .slice B5 H2.length b5, .slice D5 T2.length d5]
      have hlt5 := k5.lt
      have B6 := Lib.hid (below_store (below3 BJ.out ha) (Nat.le_refl _) (.slice A5 N2.length a5) (.slice B5 H2.length b5) (.slice D5 T2.length d5))
      have K6 := Lib.hid (bk_store k6 (.slice A5 N2.length a5) (.slice B5 H2.length b5) (.slice D5 T2.length d5))
      have O6 := Lib.hid (ho.off hlt8)
      have P6 := Lib.hid ((ho.c.chn.below han).store O6.out (.slice A5 N2.length a5) (.slice B5 H2.length b5) (.slice D5 T2.length d5))
      have n1 : ¬ (w3.heap.size = w5.heap.size) := by omega
      have p0 := k5.e0
      have p1 := k5.e1
      have p2 := k5.e2
      have q0 := k6.e0
      have q1 := k6.e1
      have q2 := k6.e2
      have f0 := k6.frozen 0
      have f1 := k6.frozen 1
      have f2 := k6.frozen 2
      have s0 := kn.e0
      have s1 := kn.e1
      have s2 := kn.e2
      clear a_n b_n c_n cz ha han k5 k6 kn hb5 ho hlt5 C2 PJ KJ BJ
      go_wp2
      go_roundw
      case rel => exact ⟨j + 1, by omega, by go_num, Lib.hid ⟨N2, H2, T2, A5, B5, D5, a5, b5, d5, HL.out, R2.out, P6.out, O6.out, K6.out, B6.out⟩⟩
      case measure => simp [intOf]; omega
    · have hj2 : j = zs.length := by omega
      subst hj2
      rw [List.drop_length] at qj RJ
      have PJ := Lib.hid hc
      have KJ := Lib.hid hk
      have BJ := Lib.hid hb
      have CJ := Lib.hid (VC.out.below hb)
      have WJ := Lib.hid (VK.out.below hb VK.out.lt)
      have BW := Lib.hid (below3 VB.out hb)
      have QJ := Lib.hid qj
      have hlt8 := KJ.out.lt
      have a_n := hk.e0
      have b_n := hk.e1
      have c_n := hk.e2
      clear hc hk hb hoff hnn qj VC VK VL VB BN PN K_n
      go_wp2_with fail
      refine (pop_none A1 B1 D1 N.length a1 H.length b1 T.length d1 N H T i _ RJ.out (by simpa using hi) (by rw [QJ.out]; rfl) _ PJ.out).mono ?_
      rintro e w6 ⟨A6, a6, E6, e6, D6, d6, rfl, ho, hb6⟩
      have ha := hb6.alloc hb6.size (.cells #[.slice A6 0 a6, .slice E6 0 e6, .slice D6 0 d6] 24)
      have C6 := Lib.hid (CJ.out.below ha)
      have N6 := Lib.hid (PJ.out.below ha)
      have W6 := Lib.hid (WJ.out.below ha WJ.out.lt)
      have M6 := Lib.hid (KJ.out.below ha KJ.out.lt)
      have B6 := Lib.hid (below3 BW.out ha)
      have hs6 := ha.size
      have w0 := W6.out.e1
      clear ha hb6 ho a_n b_n c_n CJ PJ WJ KJ BJ BW
      go_wp2
      clear w0
      go_loopw [75] (fun t wr => ∃ q : Nat, q ≤ head.length ∧ t = .int .i64 q ∧ Hid (Below (w6.alloc (.cells #[.slice A6 0 a6, .slice E6 0 e6, .slice D6 0 d6] 24)).heap.size (w6.alloc (.cells #[.slice A6 0 a6, .slice E6 0 e6, .slice D6 0 d6] 24)) wr)) (fun t _ => head.length - (intOf t).toNat)
      case atStart => exact ⟨0, Nat.zero_le _, rfl, Lib.hid (Below.refl _ _)⟩
      case round =>
        obtain ⟨q, hq, rfl, HB⟩ := hrel
        by_cases hlt : q < head.length
        · have C7 := Lib.hid (C6.out.below HB.out)
          have N7 := Lib.hid (N6.out.below HB.out)
          have W7 := Lib.hid (W6.out.below HB.out W6.out.lt)
          have M7 := Lib.hid (M6.out.below HB.out M6.out.lt)
          have hqq : q < qs.length := by have := HMQ.out; omega
          have a_c := W7.out.e0
          have b_c := W7.out.e1
          have c_c := W7.out.e2
          go_wp2_with fail
          refine (walk_ok A B D next.length a head.length b tail.length d next head tail q qs R.out hqq _ C7.out).mono ?_
          rintro e w7 ⟨A7, a7, rfl, ho, hb7⟩
          have I7 := Lib.hid ho.ints
          have N8 := Lib.hid (N7.out.below hb7)
          have M8 := Lib.hid (M7.out.below hb7 M7.out.lt)
          have B8 := Lib.hid (below3 HB.out hb7)
          have a_n := M8.out.e0
          have b_n := M8.out.e1
          have c_n := M8.out.e2
          clear ho hb7 a_c b_c c_c C7 N7 W7 M7
          go_wp2_with fail
          refine (walk_ok A1 B1 D1 N.length a1 H.length b1 T.length d1 N H T q _ RJ.out (by simpa using hqq) _ N8.out).mono ?_
          rintro e w8 ⟨A8, a8, rfl, ho, hb8⟩
          have I8 := Lib.hid ho.ints
          have I9 := Lib.hid (I7.out.below hb8)
          have B9 := Lib.hid (below3 B8.out hb8)
          clear ho hb8 a_n b_n c_n N8 M8 B8 I7
          by_cases hqi : q = i
          · subst hqi
            have ht : ((q : Int) != (q : Int)) = false := by simp
            have B10 := Lib.hid B9.out.drew
            trace_state
            go_wp2
            go_roundw
            case rel => exact ⟨q + 1, by omega, by go_num, B9⟩
            case measure => simp [intOf]; omega
          · have ht : ((q : Int) != (i : Int)) = true := by simp; omega
            have eq8 : qth (qs.set i ([] : List Int)) q = qth qs q := by rw [qth_set _ _ _ _ hqq, if_neg (fun e => hqi e.symm)]
            have I10 := Lib.hid I8.out
            rw [eq8] at I10
            rw [eq8]
            clear I8 eq8
            go_wp2_with fail
            refine (rsameInts_yes A7 A8 (qth qs q).length a7 a8 (qth qs q) _ I9.out I10.out).mono ?_
            rintro e w9 ⟨rfl, hb9⟩
            have B10 := Lib.hid (below3 B9.out hb9)
            clear hb9
            go_wp2
            go_roundw
            case rel => exact ⟨q + 1, by omega, by go_num, B10⟩
            case measure => simp [intOf]; omega
        · have B7 := Lib.hid (below3 B6.out HB.out)
          go_wp2
          go_ret
          exact ⟨rfl, B7.out⟩

theorem lpops_any (A B D : Option Addr) (n a m b k d : Nat) (next head tail : List Int) (list : Int) (w : World) (hn : n ≤ 9223372036854775807) (hm : m ≤ 9223372036854775807) (hk : k ≤ 9223372036854775807) (hp : n ≤ 2000 → m ≤ 2000 → k ≤ 2000 → Chn w A n B m D k next head tail) :
    Calls Try.prog 8 #[.agg #[.slice A n a, .slice B m b, .slice D k d], .int .i64 list] w (TrueAns w) := by
  cases hf : fewB n m k with
  | false => exact lpops_long A B D n a m b k d list w hn hm hk hf
  | true =>
    obtain ⟨h1, h2, h3⟩ := fewB_true hf
    have hp := hp (by omega) (by omega) (by omega)
    by_cases hR : ∃ qs, Rep next head tail qs
    · obtain ⟨qs, r⟩ := hR
      have hmq : qs.length = head.length := r.lh.symm
      rcases in_cases list qs.length with hl | ⟨i, rfl, hi, hl⟩
      · exact lpops_no A B D n a m b k d next head tail list w hf hp fun A B D n a m b k d w hp => walk_out A B D n a m b k d next head tail list qs r (by rw [← hp.h.1, ← hmq]; exact hl) w hp
      · exact lpops_yes A B D n a m b k d next head tail i qs w hf hp r hi
    · have hno : ∀ qs, ¬ Rep next head tail qs := fun qs r => hR ⟨qs, r⟩
      exact lpops_no A B D n a m b k d next head tail list w hf hp fun A B D n a m b k d w hp => walk_no A B D n a m b k d next head tail list hno w hp

end Go.Proofs.Ytiheeehegjfmgaa

/-
  The walk of the law ChainWhere of layer 6: a node is in just that list whose nodes it is one of; all lists together have as many nodes as are in some.
-/
import Derived.Test.YtiheeehegjfmgaaUse
import Derived.Test.YtiheeehegjfmgaaCnt
namespace Go.Proofs.Ytiheeehegjfmgaa
open Go.RowKit

set_option maxRecDepth 100000 in
set_option maxHeartbeats 4000000 in
theorem lwhere_long (A B D : Option Addr) (n a m b k d : Nat) (w : World) (hn : n ≤ 9223372036854775807) (hm : m ≤ 9223372036854775807) (hk : k ≤ 9223372036854775807) (hf : fewB n m k = false) :
    Calls Try.prog 7 #[.agg #[.slice A n a, .slice B m b, .slice D k d]] w (TrueAns w) := by
  have BB := Lib.hid ((Below.refl w.heap.size w).alloc (Nat.le_refl _) (.cells #[.slice A n a, .slice B m b, .slice D k d] 24))
  have K_c := Lib.hid (Bk.new w 24 #[.slice A n a, .slice B m b, .slice D k d])
  have HF := Lib.hid hf
  clear hf
  go_enter Try.func7, Try.ntmps7
  go_wp2_with fail
  refine (live_any _).mono ?_
  rintro e w1 ⟨rfl, hb⟩
  have ha := hb
  replace K_c := Lib.hid (K_c.out.below ha K_c.out.lt)
  replace BB := Lib.hid (below3 BB.out ha)
  clear ha hb
  have a_c := K_c.out.e0
  have b_c := K_c.out.e1
  have c_c := K_c.out.e2
  go_wp2_with fail
  refine (few_any A B D n a m b k d _ hn hm hk).mono ?_
  rw [HF.out]
  rintro e w2 ⟨rfl, hb⟩
  clear a_c b_c c_c
  have ha := hb
  replace K_c := Lib.hid (K_c.out.below ha K_c.out.lt)
  replace BB := Lib.hid (below3 BB.out ha)
  clear ha hb
  go_wp2
  go_ret
  exact ⟨rfl, BB.out⟩

set_option maxRecDepth 100000 in
set_option maxHeartbeats 4000000 in
theorem lwhere_bad (A B D : Option Addr) (n a m b k d : Nat) (next head tail : List Int) (w : World) (hf : fewB n m k = true) (hp : Chn w A n B m D k next head tail) (hno : ∀ qs, ¬ Rep next head tail qs) :
    Calls Try.prog 7 #[.agg #[.slice A n a, .slice B m b, .slice D k d]] w (TrueAns w) := by
  obtain ⟨h1, h2, h3⟩ := fewB_true hf
  obtain rfl := hp.x.1
  obtain rfl := hp.h.1
  obtain rfl := hp.t.1
  have hb0 := (Below.refl w.heap.size w).alloc (Nat.le_refl _) (.cells #[.slice A next.length a, .slice B head.length b, .slice D tail.length d] 24)
  have BB := Lib.hid hb0
  have K_c := Lib.hid (Bk.new w 24 #[.slice A next.length a, .slice B head.length b, .slice D tail.length d])
  have P_c := Lib.hid (hp.below hb0)
  have HF := Lib.hid hf
  have hn : next.length ≤ 9223372036854775807 := by omega
  have hm : head.length ≤ 9223372036854775807 := by omega
  have hk : tail.length ≤ 9223372036854775807 := by omega
  have HNO := Lib.hid hno
  clear hp hf hb0 h1 h2 h3 hno
  go_enter Try.func7, Try.ntmps7
  go_wp2_with fail
  refine (live_any _).mono ?_
  rintro e w1 ⟨rfl, hb⟩
  have ha := hb
  replace K_c := Lib.hid (K_c.out.below ha K_c.out.lt)
  replace P_c := Lib.hid (P_c.out.below ha)
  replace BB := Lib.hid (below3 BB.out ha)
  clear ha hb
  have a_c := K_c.out.e0
  have b_c := K_c.out.e1
  have c_c := K_c.out.e2
  go_wp2_with fail
  refine (few_any A B D next.length a head.length b tail.length d _ hn hm hk).mono ?_
  rw [HF.out]
  rintro e w2 ⟨rfl, hb⟩
  clear a_c b_c c_c
  have ha := hb
  replace K_c := Lib.hid (K_c.out.below ha K_c.out.lt)
  replace P_c := Lib.hid (P_c.out.below ha)
  replace BB := Lib.hid (below3 BB.out ha)
  clear ha hb
  have a_c := K_c.out.e0
  have b_c := K_c.out.e1
  have c_c := K_c.out.e2
  go_wp2_with fail
  refine (check_no A B D next.length a head.length b tail.length d next head tail HNO.out _ P_c.out).mono ?_
  rintro e w3 ⟨rfl, hb⟩
  clear a_c b_c c_c
  have ha := hb
  replace K_c := Lib.hid (K_c.out.below ha K_c.out.lt)
  replace P_c := Lib.hid (P_c.out.below ha)
  replace BB := Lib.hid (below3 BB.out ha)
  clear ha hb
  go_wp2
  go_ret
  exact ⟨rfl, BB.out⟩

set_option maxRecDepth 100000 in
set_option maxHeartbeats 8000000 in
theorem lwhere_yes (A B D : Option Addr) (n a m b k d : Nat) (next head tail : List Int) (qs : List (List Int)) (w : World) (hf : fewB n m k = true) (hp : Chn w A n B m D k next head tail) (r : Rep next head tail qs) :
    Calls Try.prog 7 #[.agg #[.slice A n a, .slice B m b, .slice D k d]] w (TrueAns w) := by
  obtain ⟨h1, h2, h3⟩ := fewB_true hf
  obtain rfl := hp.x.1
  obtain rfl := hp.h.1
  obtain rfl := hp.t.1
  have hb0 := (Below.refl w.heap.size w).alloc (Nat.le_refl _) (.cells #[.slice A next.length a, .slice B head.length b, .slice D tail.length d] 24)
  have BB := Lib.hid hb0
  have K_c := Lib.hid (Bk.new w 24 #[.slice A next.length a, .slice B head.length b, .slice D tail.length d])
  have P_c := Lib.hid (hp.below hb0)
  have HF := Lib.hid hf
  have hn : next.length ≤ 9223372036854775807 := by omega
  have hm : head.length ≤ 9223372036854775807 := by omega
  have hk : tail.length ≤ 9223372036854775807 := by omega
  have R := Lib.hid r
  have HMQ := Lib.hid r.lh
  have h256 := r.l2
  have hfew := r.few
  have HSUM : Hid (∀ i, i ≤ qs.length → sumL qs i ≤ 1024) := Lib.hid (fun i hi => sumL_le r hi)
  have HALL := Lib.hid (all_some r)
  clear hp hf hb0 h1 h2 h3 r
  go_enter Try.func7, Try.ntmps7
  go_wp2_with fail
  refine (live_any _).mono ?_
  rintro e w1 ⟨rfl, hb⟩
  have ha := hb
  replace K_c := Lib.hid (K_c.out.below ha K_c.out.lt)
  replace P_c := Lib.hid (P_c.out.below ha)
  replace BB := Lib.hid (below3 BB.out ha)
  clear ha hb
  have a_c := K_c.out.e0
  have b_c := K_c.out.e1
  have c_c := K_c.out.e2
  go_wp2_with fail
  refine (few_any A B D next.length a head.length b tail.length d _ hn hm hk).mono ?_
  rw [HF.out]
  rintro e w2 ⟨rfl, hb⟩
  clear a_c b_c c_c
  have ha := hb
  replace K_c := Lib.hid (K_c.out.below ha K_c.out.lt)
  replace P_c := Lib.hid (P_c.out.below ha)
  replace BB := Lib.hid (below3 BB.out ha)
  clear ha hb
  have a_c := K_c.out.e0
  have b_c := K_c.out.e1
  have c_c := K_c.out.e2
  clear hn hm hk
  go_wp2_with fail
  refine (check_yes A B D next.length a head.length b tail.length d next head tail qs R.out _ P_c.out).mono ?_
  rintro e w3 ⟨rfl, hb⟩
  clear a_c b_c c_c
  have ha := hb
  replace K_c := Lib.hid (K_c.out.below ha K_c.out.lt)
  replace P_c := Lib.hid (P_c.out.below ha)
  replace BB := Lib.hid (below3 BB.out ha)
  clear ha hb
  have a_c := K_c.out.e0
  have b_c := K_c.out.e1
  have c_c := K_c.out.e2
  go_wp2
  clear a_c b_c c_c
  go_loopw [4, 29] (fun v t wr => ∃ q : Nat, q ≤ head.length ∧ t = .int .i64 q ∧ (∃ s : Nat, v = .int .i64 s ∧ Hid (s = sumL qs q)) ∧ Hid (Below w3.heap.size w3 wr)) (fun _ t _ => head.length - (intOf t).toNat)
  case atStart => exact ⟨0, Nat.zero_le _, rfl, ⟨0, rfl, Lib.hid rfl⟩, Lib.hid (Below.refl _ _)⟩
  case round =>
    rename World => wo
    obtain ⟨q, hq, rfl, ⟨s, rfl, HSQ⟩, HB⟩ := hrel
    have hs0 := HSUM.out q (by have := HMQ.out; omega)
    rw [← HSQ.out] at hs0
    by_cases hlt : q < head.length
    · have hqq : q < qs.length := by have := HMQ.out; omega
      have hs1 := HSUM.out (q + 1) hqq
      have hsl : s + (qth qs q).length ≤ 1024 := by have e := HSQ.out; rw [sumL] at hs1; omega
      have HS2 : Hid (s + (qth qs q).length = sumL qs (q + 1)) := Lib.hid (by rw [sumL, HSQ.out])
      have C1 := Lib.hid (P_c.out.below HB.out)
      have W1 := Lib.hid (K_c.out.below HB.out K_c.out.lt)
      have a_c := W1.out.e0
      have b_c := W1.out.e1
      have c_c := W1.out.e2
      obtain ⟨zs, hzs⟩ : ∃ zs, qth qs q = zs := ⟨_, rfl⟩
      have HZ := Lib.hid hzs
      rw [hzs] at hsl HS2
      clear hs1 hzs
      go_wp2_with fail
      refine (walk_ok A B D next.length a head.length b tail.length d next head tail q qs R.out hqq _ C1.out).mono ?_
      rw [HZ.out]
      rintro e w7 ⟨A7, a7, rfl, ho, hb7⟩
      have I7 := Lib.hid ho.ints
      have C7 := Lib.hid (C1.out.below hb7)
      have W7 := Lib.hid (W1.out.below hb7 W1.out.lt)
      have B7 := Lib.hid (below3 HB.out hb7)
      clear ho hb7 a_c b_c c_c C1 W1
      go_wp2
      go_loopw [46] (fun t wr => ∃ j : Nat, j ≤ zs.length ∧ t = .int .i64 j ∧ Hid (Below w7.heap.size w7 wr)) (fun t _ => zs.length - (intOf t).toNat)
      case atStart => exact ⟨0, Nat.zero_le _, rfl, Lib.hid (Below.refl _ _)⟩
      case round =>
        rename World => wp
        obtain ⟨j, hj, rfl, HBj⟩ := hrel
        by_cases hlt2 : j < zs.length
        · obtain ⟨bz, oz, rfl, hbz, hcz⟩ := (I7.out.below HBj.out).2.2.2 (by omega)
          have cz := hcz j hlt2
          have hr := R.out.rng q j hqq (by rw [HZ.out]; exact hlt2)
          have hwh := R.out.where_at hqq (x := nth zs j) (by rw [HZ.out]; exact nth_mem_ hlt2)
          rw [HZ.out] at hr
          obtain ⟨y, hy⟩ : ∃ y, nth zs j = y := ⟨_, rfl⟩
          rw [hy] at cz hr hwh
          have HW := Lib.hid hwh
          have HIN : Hid (inBd y (next.length : Int) = true) := Lib.hid (by simp [inBd]; exact hr)
          have C8 := Lib.hid (C7.out.below HBj.out)
          have W8 := Lib.hid (W7.out.below HBj.out W7.out.lt)
          have a_c := W8.out.e0
          have b_c := W8.out.e1
          have c_c := W8.out.e2
          clear hbz hcz hr hwh hy
          go_wp2_with fail
          refine (whereF_ok A B D next.length a head.length b tail.length d next head tail y qs R.out HIN.out _ C8.out).mono ?_
          rw [HW.out]
          rintro e w9 ⟨rfl, hb9⟩
          have B9 := Lib.hid (below3 HBj.out hb9)
          clear hb9 a_c b_c c_c cz C8 W8
          go_wp2
          go_roundw
          case rel => exact ⟨j + 1, by omega, by go_num, B9⟩
          case measure => simp [intOf]; omega
        · have B9 := Lib.hid (below3 B7.out HBj.out)
          go_wp2
          go_roundw
          case rel => exact ⟨q + 1, by omega, by go_num, ⟨s + zs.length, by go_num, HS2⟩, B9⟩
          case measure => simp [intOf]; omega
    · have hqe : q = qs.length := by have := HMQ.out; omega
      subst hqe
      have HAS : Hid (s = cntP (someB qs) next.length) := Lib.hid (HSQ.out.trans HALL.out)
      have C1 := Lib.hid (P_c.out.below HB.out)
      have W1 := Lib.hid (K_c.out.below HB.out K_c.out.lt)
      have B1 := Lib.hid (below3 BB.out HB.out)
      have a_c := W1.out.e0
      go_wp2
      clear a_c
      go_loopw [12, 68] (fun v t wr => ∃ q : Nat, q ≤ next.length ∧ t = .int .i64 q ∧ (∃ s : Nat, v = .int .i64 s ∧ Hid (s = cntP (someB qs) q)) ∧ Hid (Below wo.heap.size wo wr)) (fun _ t _ => next.length - (intOf t).toNat)
      case atStart => exact ⟨0, Nat.zero_le _, rfl, ⟨0, rfl, Lib.hid rfl⟩, Lib.hid (Below.refl _ _)⟩
      case round =>
        rename World => wp
        obtain ⟨x, hx, rfl, ⟨z, rfl, HZQ⟩, HBx⟩ := hrel
        have hz0 : z ≤ x := by rw [HZQ.out]; exact cntP_le _ _
        by_cases hlt2 : x < next.length
        · have HIN : Hid (inBd (x : Int) (next.length : Int) = true) := Lib.hid (by simp [inBd]; omega)
          have C2 := Lib.hid (C1.out.below HBx.out)
          have W2 := Lib.hid (W1.out.below HBx.out W1.out.lt)
          have a_c := W2.out.e0
          have b_c := W2.out.e1
          have c_c := W2.out.e2
          obtain ⟨bx, ox, rfl, hbx, hcx⟩ := C2.out.x.2.2.2 (by omega)
          have cx0 := hcx x hlt2
          have hbx2 := Lib.hid hbx
          clear hbx hcx
          rcases where_cases R.out (x : Int) with ⟨hw, hno⟩ | ⟨i, p, hi, hp, hxp, hw⟩
          · have HW := Lib.hid hw
            have hnx := (R.out.out_iff hlt2).2 hno
            rw [hnx] at cx0
            have HS3 : Hid (z = cntP (someB qs) (x + 1)) := Lib.hid (by rw [cntP, ← HZQ.out, someB, hw]; rfl)
            clear hw hno hnx
            go_wp2_with fail
            refine (whereF_ok _ B D next.length a head.length b tail.length d next head tail x qs R.out HIN.out _ C2.out).mono ?_
            rw [HW.out]
            rintro e w9 ⟨rfl, hb9⟩
            have a9 := (W2.out.below hb9 W2.out.lt).e0
            have cx := (hb9.cell (p := ⟨bx, ox + x, none⟩) hbx2.out).trans cx0
            have B9 := Lib.hid (below3 HBx.out hb9)
            clear hb9 a_c b_c c_c cx0 C2 W2
            go_wp2
            go_roundw
            case rel => exact ⟨x + 1, by omega, by go_num, ⟨z, rfl, HS3⟩, B9⟩
            case measure => simp [intOf]; omega
          · have HW := Lib.hid hw
            have hnx : nth next x ≠ -2 := fun e => (R.out.out_iff hlt2).1 e i hi (hxp ▸ nth_mem_ hp)
            obtain ⟨y, hy⟩ : ∃ y, nth next x = y := ⟨_, rfl⟩
            rw [hy] at cx0 hnx
            have t1 : ((i : Int) == -1) = false := by simp
            have t2 : (y == -2) = false := by simp [hnx]
            have t3 : ((i : Int) != -1) = true := by simp
            have HS3 : Hid (z + 1 = cntP (someB qs) (x + 1)) := Lib.hid (by rw [cntP, ← HZQ.out, someB, hw, if_pos t3])
            clear hw hxp hp hnx hy
            go_wp2_with fail
            refine (whereF_ok _ B D next.length a head.length b tail.length d next head tail x qs R.out HIN.out _ C2.out).mono ?_
            rw [HW.out]
            rintro e w9 ⟨rfl, hb9⟩
            have a9 := (W2.out.below hb9 W2.out.lt).e0
            have cx := (hb9.cell (p := ⟨bx, ox + x, none⟩) hbx2.out).trans cx0
            have B9 := Lib.hid (below3 HBx.out hb9)
            clear hb9 a_c b_c c_c cx0 C2 W2
            go_wp2
            go_roundw
            case rel => exact ⟨x + 1, by omega, by go_num, ⟨z + 1, by go_num, HS3⟩, B9⟩
            case measure => simp [intOf]; omega
        · have hxe : x = next.length := by omega
          have hzs : z = s := by rw [HZQ.out, HAS.out, hxe]
          subst hzs
          have B9 := Lib.hid (below3 B1.out HBx.out)
          go_wp2
          go_ret
          exact ⟨rfl, B9.out⟩

theorem lwhere_any (A B D : Option Addr) (n a m b k d : Nat) (next head tail : List Int) (w : World) (hn : n ≤ 9223372036854775807) (hm : m ≤ 9223372036854775807) (hk : k ≤ 9223372036854775807) (hp : n ≤ 2000 → m ≤ 2000 → k ≤ 2000 → Chn w A n B m D k next head tail) :
    Calls Try.prog 7 #[.agg #[.slice A n a, .slice B m b, .slice D k d]] w (TrueAns w) := by
  cases hf : fewB n m k with
  | false => exact lwhere_long A B D n a m b k d w hn hm hk hf
  | true =>
    obtain ⟨h1, h2, h3⟩ := fewB_true hf
    have hp := hp (by omega) (by omega) (by omega)
    by_cases hR : ∃ qs, Rep next head tail qs
    · obtain ⟨qs, r⟩ := hR
      exact lwhere_yes A B D n a m b k d next head tail qs w hf hp r
    · exact lwhere_bad A B D n a m b k d next head tail w hf hp fun qs r => hR ⟨qs, r⟩

end Go.Proofs.Ytiheeehegjfmgaa

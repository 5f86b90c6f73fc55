/-
  The law HeapLeast: the first one of all is the first one in order; without it the next one is: the walk.
-/
import Derived.Test.YtjamoafihmcmeaaLHv
namespace Go.Proofs.Ytjamoafihmcmeaa
open Go.RowKit

theorem sorted_head {m a rest : List Tm} {x : Tm} (h : heapOk m) (ho : orderF m = x :: rest) (hp : a.Perm (lessId m x.2)) : orderF a = rest := by
  have h1 : m.Perm (x :: rest) := ho ▸ (orderF_perm m).symm
  have h2 : (lessId m x.2).Perm (lessId (x :: rest) x.2) := lessId_perm h1 x.2
  have hnd : NoTwo (x :: rest) := (noTwo_perm h1).1 h.noTwo
  unfold NoTwo at hnd
  rw [List.map_cons, List.nodup_cons] at hnd
  have h3 : lessId (x :: rest) x.2 = rest := by
    unfold lessId
    rw [List.filter_cons, if_neg (by simp), List.filter_eq_self]
    intro t ht
    have : t.2 ≠ x.2 := fun q => hnd.1 (by rw [← q]; exact List.mem_map_of_mem ht)
    simpa using this
  rw [h3] at h2
  have hs : Srt rest := by
    have := orderF_srt m
    rw [ho] at this
    exact (List.pairwise_cons.1 this).2
  exact orderF_of_srt hs (hp.trans h2).symm
theorem drop_ith {l : List Tm} {k : Nat} (h : k < l.length) : l.drop k = ith l k :: l.drop (k + 1) := by
  rw [List.drop_eq_getElem_cons h, ith_get h]
theorem least_of {m : List Tm} {x : Tm} {rest : List Tm} (h : heapOk m) (ho : orderF m = x :: rest) : leastR m = (0, x) := by
  have hl : m.length ≠ 0 := by rw [← orderF_len, ho]; simp
  rw [leastR, if_pos h, if_neg hl, ho]
  rfl
theorem hasId_of {m : List Tm} {x : Tm} (h : x ∈ m) : hasId m x.2 := hasId_iff.2 (List.mem_map_of_mem h)

set_option maxRecDepth 100000 in
set_option maxHeartbeats 4000000 in
theorem lleast_any (A : Option Addr) (n c : Nat) (l : List Tm) (w : World) (hx : Tms w A n c l) :
    Calls Try.prog 9 #[.slice A n c] w (TrueAns w) := by
  have HX := Lib.hid hx
  have LX := Lib.hid hx.1
  have hnc := hx.2.1
  have hN := neq_tim
  have hG := guard_tim .neq
  clear hx
  go_enter Try.func9, Try.ntmps9
  go_wp2_with fail
  refine (live_any _).mono ?_
  rintro e w1 ⟨rfl, b1⟩
  have B1 := Lib.hid b1
  clear b1
  by_cases h300 : 300 < n
  · go_wp2_with fail
    go_ret
    exact ⟨rfl, B1.out⟩
  · go_wp2_with fail
    refine (psorted_any A n c l _ (HX.out.below B1.out)).mono ?_
    rintro e w2 ⟨A2, c2, rfl, o2, b2⟩
    by_cases hok : heapOk l
    · obtain ⟨z, s, hs⟩ : ∃ z s, sortedR l = (z, s) := ⟨_, _, rfl⟩
      rw [hs] at o2 ⊢
      rw [sortedR, if_pos hok] at hs
      injection hs with hz hs
      subst hz
      have hsl : s.length = n := by rw [← hs, orderF_len]; exact LX.out
      simp only [hsl]
      have HS := Lib.hid hs
      have HOK := Lib.hid hok
      have O2 := Lib.hid o2
      have HSL := Lib.hid hsl
      have B2 := Lib.hid (below3 B1.out b2)
      have T0 := Lib.hid (HX.out.below B2.out)
      have R0 := Lib.hid (show heapOk l ∧ orderF l = s.drop 0 from ⟨hok, by rw [List.drop_zero]; exact hs⟩)
      have B20 := Lib.hid (Below.refl w2.heap.size w2)
      clear hok hs o2 b2 hsl
      go_wp2_with fail
      go_loopw [33, 6] (fun t u wr => ∃ (k : Nat) (Am : Option Addr) (nm cm : Nat) (m : List Tm), t = .int .i64 (k : Int) ∧ u = .slice Am nm cm ∧ k ≤ n ∧ Hid (heapOk m ∧ orderF m = s.drop k) ∧ Hid (Tms wr Am nm cm m) ∧ Hid (Below w2.heap.size w2 wr)) (fun t _ _ => n - (intOf t).toNat)
      case atStart => exact ⟨0, A, n, c, l, rfl, rfl, Nat.zero_le _, R0, T0, B20⟩
      case round =>
        clear R0 T0 B20
        rename World => wr
        obtain ⟨k, Am, nm, cm, m, rfl, rfl, hk, RM, TM, BM⟩ := hrel
        by_cases hkn : k < n
        · have hks : k < s.length := by rw [HSL.out]; exact hkn
          obtain ⟨bA, oA, rfl, hbA, c0, c1⟩ := (O2.out.tms.below BM.out).at_ hks
          obtain ⟨x1, hx1⟩ : ∃ z, jO s k = z := ⟨_, rfl⟩
          obtain ⟨x2, hx2⟩ : ∃ z, jA s k = z := ⟨_, rfl⟩
          have HZ := Lib.hid (show ith s k = (x1, x2) by rw [← hx1, ← hx2]; rfl)
          rw [hx1] at c0
          rw [hx2] at c1
          have HD := Lib.hid (show orderF m = (x1, x2) :: s.drop (k + 1) by rw [RM.out.2, drop_ith hks, HZ.out])
          have HLE := Lib.hid (least_of RM.out.1 HD.out)
          have k1 := Bk.new wr 24 #[.int .i64 x1, .int .i64 x2]
          have b1 := (Below.refl wr.heap.size wr).alloc (Nat.le_refl _) (.cells #[.int .i64 x1, .int .i64 x2] 24)
          obtain ⟨gt, hgt⟩ : ∃ g, wr.heap.size = g := ⟨_, rfl⟩
          obtain ⟨V, hV⟩ : ∃ V, wr.alloc (.cells #[.int .i64 x1, .int .i64 x2] 24) = V := ⟨_, rfl⟩
          rw [hV] at k1 b1
          have TM := Lib.hid (TM.out.below b1)
          have BM := Lib.hid (below3 BM.out b1)
          rw [hgt] at k1
          have K1 := Lib.hid k1
          have HV := Lib.hid hV
          have HGT := Lib.hid hgt
          clear hV hgt k1 b1 hx1 hx2
          go_upto_region 13 with fail
          rw [HV.out]
          try rw [HGT.out]
          clear HV HGT c0 c1 hbA
          go_wp2_with fail
          refine (pleast_any Am nm cm m _ TM.out).mono ?_
          rw [HLE.out]
          rintro e w4 ⟨rfl, b4⟩
          have K4 := Lib.hid (K1.out.below b4 K1.out.lt)
          have TM4 := Lib.hid (TM.out.below b4)
          have BM4 := Lib.hid (below3 BM.out b4)
          clear b4 K1 TM BM
          have k5 := Bk.new w4 24 #[.int .i64 x1, .int .i64 x2]
          have b5 := (Below.refl w4.heap.size w4).alloc (Nat.le_refl _) (.cells #[.int .i64 x1, .int .i64 x2] 24)
          obtain ⟨gu, hgu⟩ : ∃ g, w4.heap.size = g := ⟨_, rfl⟩
          obtain ⟨V, hV⟩ : ∃ V, w4.alloc (.cells #[.int .i64 x1, .int .i64 x2] 24) = V := ⟨_, rfl⟩
          rw [hV] at k5 b5
          rw [hgu] at k5
          have K4 := Lib.hid (K4.out.below b5 K4.out.lt)
          have TM := Lib.hid (TM4.out.below b5)
          have BM := Lib.hid (below3 BM4.out b5)
          have K5 := Lib.hid k5
          have HV := Lib.hid hV
          have HGU := Lib.hid hgu
          clear hV hgu k5 b5 TM4 BM4
          go_upto_region 14 with fail
          rw [HV.out]
          try rw [HGU.out]
          clear HV HGU
          have q1 : _ = some (Value.int .i64 x2) := K5.out.cell 1
          have lq := K5.out.lt
          go_wp2_with fail
          refine (pcancel_any Am nm cm m x2 _ TM.out).mono ?_
          rintro e w6 ⟨A6, c6, a6, z6, rfl, s6, o6, b6⟩
          have hin : (x1, x2) ∈ m := (orderF_perm m).mem_iff.1 (by rw [HD.out]; simp)
          have hz6 : z6 = 0 := by rw [s6.1, cancelR, if_pos RM.out.1, if_pos (hasId_of (x := (x1, x2)) hin)]
          subst hz6
          obtain ⟨hk6, hp6⟩ := s6.2.2 rfl
          have R6 := Lib.hid (show heapOk a6 ∧ orderF a6 = s.drop (k + 1) from ⟨hk6, sorted_head RM.out.1 HD.out hp6⟩)
          have T6 := Lib.hid o6.tms
          have K4' := Lib.hid (K4.out.below b6 K4.out.lt)
          have K5' := Lib.hid (K5.out.below b6 K5.out.lt)
          have BM6 := Lib.hid (below3 BM.out b6)
          clear s6 o6 b6 hin hk6 hp6 q1 lq K4 K5 BM TM
          have q0 : _ = some (Value.int .i64 x1) := K4'.out.cell 0
          have q1 : _ = some (Value.int .i64 x2) := K4'.out.cell 1
          have r0 : _ = some (Value.int .i64 x1) := K5'.out.cell 0
          have r1 : _ = some (Value.int .i64 x2) := K5'.out.cell 1
          have lq := K4'.out.lt
          have lr := K5'.out.lt
          go_wp2_with fail
          go_roundw
          case rel => exact ⟨k + 1, A6, a6.length, c6, a6, by go_num, rfl, by omega, R6, T6, BM6⟩
          case measure => simp only [intOf]; omega
        · have hkn' : k = n := by omega
          have hm : m = [] := by
            have h1 := congrArg List.length RM.out.2
            rw [orderF_len, List.length_drop, HSL.out] at h1
            exact List.eq_nil_of_length_eq_zero (by omega)
          have hnm : nm = 0 := by rw [← TM.out.1, hm]; rfl
          subst hnm
          have HLE := Lib.hid (show leastR m = (5, (0, 0)) by rw [leastR, if_pos RM.out.1, if_pos (by rw [hm]; rfl)])
          have HKN := Lib.hid hkn'
          clear hm hkn'
          go_wp2_with fail
          refine (pleast_any Am 0 cm m _ TM.out).mono ?_
          rw [HLE.out]
          rintro e w4 ⟨rfl, b4⟩
          have BF := Lib.hid (below3 (below3 B2.out BM.out) (b4.trans (((Below.refl w4.heap.size w4).alloc (Nat.le_refl _) (.cells #[.int .i64 0, .int .i64 0] 24)).mono b4.size)))
          clear b4
          go_wp2_with fail
          go_ret
          exact ⟨rfl, BF.out⟩
    · obtain ⟨z, s, hs⟩ : ∃ z s, sortedR l = (z, s) := ⟨_, _, rfl⟩
      rw [hs] at o2 ⊢
      rw [sortedR, if_neg hok] at hs
      injection hs with hz hs
      subst hz
      have B2 := Lib.hid (below3 B1.out b2)
      clear hok hs o2 b2
      go_wp2_with fail
      go_ret
      exact ⟨rfl, B2.out⟩

end Go.Proofs.Ytjamoafihmcmeaa

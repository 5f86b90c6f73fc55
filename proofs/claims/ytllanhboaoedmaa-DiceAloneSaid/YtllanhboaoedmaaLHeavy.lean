/-
  The walk of the law DiceHeavy of layer 3: of draws below the weights' sum as many come to each as it weighs.
-/
import Derived.Test.YtllanhboaoedmaaTwo
namespace Go.Proofs.Ytllanhboaoedmaa
open Go.RowKit

/-- How many of the draws below n came to each weight. -/
def cnt (ws : List Int) (n : Int) : List Int := (List.range ws.length).map fun i => min (max (n - pre ws i) 0) (nth ws i)

theorem cnt_len (ws : List Int) (n : Int) : (cnt ws n).length = ws.length := by simp [cnt]
theorem cnt_nth {ws : List Int} {n : Int} {i : Nat} (h : i < ws.length) : nth (cnt ws n) i = min (max (n - pre ws i) 0) (nth ws i) := by
  rw [nth_get (by rw [cnt_len]; exact h)]
  simp [cnt]
theorem nonneg_nth {ws : List Int} (h : ∀ x ∈ ws, 0 ≤ x) {i : Nat} (hi : i < ws.length) : 0 ≤ nth ws i := by
  rw [nth_get hi]; exact h _ (List.getElem_mem _)
theorem pre_nonneg {ws : List Int} (h : ∀ x ∈ ws, 0 ≤ x) {i : Nat} (hi : i ≤ ws.length) : 0 ≤ pre ws i := by
  have := pre_mono h (j := 0) (k := i) (by omega) hi
  rwa [pre_zero] at this
theorem ext_nth {xs ys : List Int} (hl : xs.length = ys.length) (h : ∀ i, i < xs.length → nth xs i = nth ys i) : xs = ys := by
  refine List.ext_getElem hl fun i h1 h2 => ?_
  have := h i h1
  rwa [nth_get h1, nth_get h2] at this
theorem cnt_zero {ws : List Int} (h : ∀ x ∈ ws, 0 ≤ x) : cnt ws 0 = List.replicate ws.length 0 := by
  refine ext_nth (by simp [cnt]) fun i hi => ?_
  rw [cnt_len] at hi
  have h1 := nonneg_nth h hi
  have h2 := pre_nonneg h (i := i) (by omega)
  have h3 : nth (List.replicate ws.length (0 : Int)) i = 0 := by rw [nth_get (by simpa using hi)]; simp
  rw [cnt_nth hi, h3]
  omega
theorem cnt_all {ws : List Int} (h : ∀ x ∈ ws, 0 ≤ x) : cnt ws ws.sum = ws := by
  refine ext_nth (cnt_len _ _) fun i hi => ?_
  rw [cnt_len] at hi
  have h1 := nonneg_nth h hi
  have h2 := pre_mono h (j := i + 1) (k := ws.length) (by omega) (by omega)
  rw [pre_all, pre_succ hi] at h2
  rw [cnt_nth hi]
  omega
theorem nth_set (xs : List Int) (i j : Nat) (x : Int) (h : i < xs.length) : nth (xs.set j x) i = if j = i then x else nth xs i := by
  rw [nth_get (by simpa using h), List.getElem_set, nth_get h]
theorem cnt_step {ws : List Int} (h : ∀ x ∈ ws, 0 ≤ x) {n : Int} (h0 : 0 ≤ n) (h1 : n < ws.sum) : (cnt ws n).set (pick ws n) (nth (cnt ws n) (pick ws n) + 1) = cnt ws (n + 1) := by
  obtain ⟨k1, k2, k3⟩ := pick_place h0 h1
  refine ext_nth (by simp [cnt]) fun i hi => ?_
  have hi' : i < ws.length := by simpa [cnt] using hi
  rw [nth_set _ _ _ _ (by rw [cnt_len]; exact hi')]
  rw [pre_succ k1] at k3
  by_cases he : pick ws n = i
  · subst he
    rw [if_pos rfl, cnt_nth hi', cnt_nth hi']
    omega
  · rw [if_neg he, cnt_nth hi', cnt_nth hi']
    have hn := nonneg_nth h hi'
    rcases Nat.lt_or_ge i (pick ws n) with h2 | h2
    · have h4 := pre_mono h (j := i + 1) (k := pick ws n) (by omega) (by omega)
      rw [pre_succ hi'] at h4
      omega
    · have h4 := pre_mono h (j := pick ws n + 1) (k := i) (by omega) (by omega)
      rw [pre_succ k1] at h4
      omega

theorem draw_split (n : Nat) : drawAt [(n : Int) / 256, (n : Int) % 256] 0 = (n : Int) := by
  have e : drawAt [(n : Int) / 256, (n : Int) % 256] 0 = 256 * ((n : Int) / 256) + (n : Int) % 256 := rfl
  rw [e]
  omega

set_option maxHeartbeats 2000000 in
theorem lheavy_big (B : Option Addr) (K d : Nat) (ws : List Int) (w : World) (hw : Ints w B K ws) (h : 12 < K) :
    Calls Try.prog 6 #[.slice B K d] w (TrueAns w) := by
  have hk := hw.2.1
  clear hw
  go_enter Try.func6, Try.ntmps6
  go_wp2_with fail
  refine (live_any _).mono ?_
  rintro e w1 ⟨rfl, hb1⟩
  have HB := Lib.hid hb1
  clear hb1
  go_wp2
  go_ret
  exact ⟨rfl, HB.out⟩

theorem weightE_small {ws : List Int} (hn : ws.length ≤ 12) (h : ∀ x ∈ ws, 0 ≤ x ∧ x ≤ 40) : weightE ws = if ws.sum = 0 then 5 else 0 := by
  have h2 : ∀ x ∈ ws, 0 ≤ x ∧ x ≤ 65536 := fun x hx => by have := h x hx; omega
  rw [weightE_fine (by omega) h2, if_neg]
  have h3 : ∀ k, k ≤ ws.length → pre ws k ≤ 40 * (k : Int) := by
    intro k
    induction k with
    | zero => intro _; rw [pre_zero]; omega
    | succ k ih =>
      intro hk
      have h4 := ih (by omega)
      have h5 : nth ws k ≤ 40 := by rw [nth_get (by omega)]; exact (h _ (List.getElem_mem _)).2
      rw [pre_succ (by omega)]
      omega
  have h4 := h3 ws.length (Nat.le_refl _)
  rw [pre_all] at h4
  omega

/-- So far the draws are counted. -/
def CntS (W : World) (G K : Nat) (ws : List Int) (n : Nat) (w : World) : Prop := OwnI 3 w G (some ⟨G, 0, none⟩) K (cnt ws n) ∧ Below G W w

set_option maxRecDepth 100000 in
set_option maxHeartbeats 2000000 in
theorem lheavy_ok (B : Option Addr) (K d : Nat) (ws : List Int) (w : World) (hw : Ints w B K ws) (hK : K ≤ 12) :
    Calls Try.prog 6 #[.slice B K d] w (TrueAns w) := by
  have HW := Lib.hid hw
  obtain ⟨i0, hi, hz0, hz1, hz2⟩ := info_parts Try.intInfo
  have HI := Lib.hid hi
  have HZ := Lib.hid hz0
  have HS := Lib.hid hz1
  have HB := Lib.hid hz2
  clear hi hz0 hz1 hz2 hw
  go_enter Try.func6, Try.ntmps6
  go_wp2_with fail
  refine (live_any _).mono ?_
  rintro e w1 ⟨rfl, hb1⟩
  have B1 := Lib.hid hb1
  have W1 := Lib.hid (HW.out.below hb1)
  clear hb1 HW
  go_wp2
  go_loop [4, 24] (fun s t => ∃ (k : Nat) (z : Int), k ≤ K ∧ t = .int .i64 k ∧ s = .int .i64 z ∧ 0 ≤ z ∧ z ≤ 40 * (k : Int) ∧ Hid (z = pre ws k) ∧ Hid (∀ j, j < k → 0 ≤ nth ws j ∧ nth ws j ≤ 40)) (fun _ t => K - (intOf t).toNat)
  case atStart => exact ⟨0, 0, Nat.zero_le _, rfl, rfl, by omega, by omega, Lib.hid (pre_zero _).symm, Lib.hid (fun j hj => by omega)⟩
  case round =>
    obtain ⟨k, z, hk, rfl, rfl, z0, z1, HP, HA⟩ := hrel
    by_cases hlt : k < K
    · obtain ⟨-, -, -, hc⟩ := W1.out
      obtain ⟨b, o, rfl, -, hcell⟩ := hc (by omega)
      have c1 := hcell k hlt
      clear hcell hc
      have hkl : k < ws.length := by rw [W1.out.1]; exact hlt
      by_cases hb : nth ws k < 0 ∨ 40 < nth ws k
      · clear hkl
        rcases hb with hb | hb
        all_goals
          go_wp2
          go_ret
          exact ⟨rfl, B1.out⟩
      · have hb1 : 0 ≤ nth ws k := by omega
        have hb2 : nth ws k ≤ 40 := by omega
        have HP' := Lib.hid (show z + nth ws k = pre ws (k + 1) by rw [pre_succ hkl, HP.out])
        have HA' : Hid (∀ j, j < k + 1 → 0 ≤ nth ws j ∧ nth ws j ≤ 40) := Lib.hid (fun j hj => by
          rcases Nat.lt_or_ge j k with h | h
          · exact HA.out j h
          · rw [show j = k by omega]; exact ⟨hb1, hb2⟩)
        clear hkl hb
        go_wp2
        go_round
        case rel => exact ⟨k + 1, z + nth ws k, by omega, by go_num, rfl, by omega, by omega, HP', HA'⟩
        case measure => simp [intOf]; omega
    · obtain rfl : k = K := by omega
      have hlen := W1.out.1
      have hall : ∀ x ∈ ws, 0 ≤ x ∧ x ≤ 40 := by
        intro x hx
        obtain ⟨j, hj, rfl⟩ := List.mem_iff_getElem.1 hx
        rw [← nth_get hj]
        exact HA.out j (by omega)
      have hpos : ∀ x ∈ ws, 0 ≤ x := fun x hx => (hall x hx).1
      have hz : z = ws.sum := by rw [HP.out, ← pre_all, hlen]
      have HE := Lib.hid (weightE_small (by omega) hall)
      have HN := Lib.hid hpos
      have HL := Lib.hid hlen
      obtain ⟨s, rfl⟩ := Int.eq_ofNat_of_zero_le z0
      have HSum := Lib.hid hz
      clear hall hz hpos hlen HP HA
      go_wp2_with (at_make; refine wpList_make_full _ rfl _ _ 25 rfl w1.heap.size 3 i0 (.int .i64 0) 1 Try.underlying25 HI.out HZ.out HS.out .i64 .i64 _ _ k rfl rfl rfl rfl (by rw [HB.out]; omega) (by unfold maxLen; omega) (Nat.le_refl _) ?_; intro w5 hown hgrow; have HO := Lib.hid hown; have HG := Lib.hid hgrow; clear hown hgrow)
      have C0 : Hid (CntS w1 w1.heap.size k ws 0 w5) := by
        refine Lib.hid ⟨?_, (Below.refl _ _).grown HG.out (Nat.le_refl _) (by simp)⟩
        have h1 := OwnI.zeros (by omega) HO.out
        have e1 : cnt ws ((0 : Nat) : Int) = List.replicate k 0 := by
          have := cnt_zero HN.out
          rwa [HL.out] at this
        rw [e1]
        exact h1
      clear HO HG HI HZ HS HB
      go_loopw [43] (fun t wr => ∃ n : Nat, n ≤ s ∧ t = .int .i64 n ∧ Hid (CntS w1 w1.heap.size k ws n wr)) (fun t _ => s - (intOf t).toNat)
      case atStart => exact ⟨0, Nat.zero_le _, rfl, C0⟩
      case round =>
        clear C0
        obtain ⟨n, hn, rfl, C⟩ := hrel
        by_cases hlt : n < s
        · have hE : weightE ws = 0 := by rw [HE.out, ← HSum.out, if_neg (by omega)]
          have HE0 := Lib.hid hE
          have n0 : (0 : Int) ≤ (n : Int) := by omega
          have n1 : (n : Int) < 480 := by omega
          clear hE
          have k0 := Bk.new wr 5 #[.int .u8 ((n : Int) / 256), .int .u8 ((n : Int) % 256)]
          have ha := (Below.refl wr.heap.size wr).alloc (Nat.le_refl _) (.cells #[.int .u8 ((n : Int) / 256), .int .u8 ((n : Int) % 256)] 5)
          have O0 := Lib.hid (octs2 k0 (by unfold Oct; omega) (by unfold Oct; omega))
          have hg1 : w1.heap.size < wr.heap.size := C.out.1.lt
          have hbw : Below w1.heap.size w1 wr := C.out.2
          have I0 := Lib.hid ((W1.out.below hbw).below ha)
          obtain ⟨p1, p2, p3⟩ := pick_place n0 (show (n : Int) < ws.sum by rw [← HSum.out]; omega)
          have HK : Hid ((pick ws (drawAt [(n : Int) / 256, (n : Int) % 256] 0 % ws.sum) : Int) = (pick ws n : Int)) := Lib.hid (by rw [draw_split, Int.emod_eq_of_lt n0 (by rw [← HSum.out]; omega)])
          have HC : Hid ((cnt ws n).set (pick ws n) (nth (cnt ws n) (pick ws n) + 1) = cnt ws ((n + 1 : Nat) : Int)) := Lib.hid (cnt_step HN.out n0 (by rw [← HSum.out]; omega))
          have hpk : pick ws n < k := by rw [← HL.out]; exact p1
          have hcn : nth (cnt ws n) (pick ws n) = (n : Int) - pre ws (pick ws n) := by
            rw [cnt_nth p1]
            have := pre_nonneg HN.out (i := pick ws n) (by omega)
            rw [pre_succ p1] at p3
            omega
          have hpn := pre_nonneg HN.out (i := pick ws n) (by omega)
          generalize pick ws n = i at HK HC hpk hcn p2 hpn
          obtain ⟨x, hx⟩ : ∃ x, x = nth (cnt ws n) i := ⟨_, rfl⟩
          rw [← hx] at hcn
          have x0 : 0 ≤ x := by omega
          have x1 : x ≤ 480 := by omega
          have HX := Lib.hid hx
          rw [← hx] at HC
          have i0' : (0 : Int) ≤ (i : Int) := by omega
          have i1' : (i : Int) < (k : Int) := by omega
          clear k0 hbw p1 p2 p3 hcn hx hpn
          go_wp2_with fail
          refine (heavy_at _ B 2 2 0 k d 0 (i : Int) _ ws _ rfl O0.out (by omega) I0.out HE0.out HK.out).mono ?_
          rintro e w6 ⟨A2, c2, rfl, -, hb⟩
          have hb2 := Lib.hid ((ha.trans (hb.mono ha.size)).alloc (by have := hb.size; have := ha.size; omega) (.cells #[.slice A2 2 c2, .int .i64 2] 24))
          have C6 : CntS w1 w1.heap.size k ws n _ := ⟨C.out.1.below hb2.out, C.out.2.trans (hb2.out.mono (Nat.le_of_lt hg1))⟩
          obtain ⟨c1, f1⟩ := C6.1.at_ (j := i) (by rw [cnt_len, HL.out]; exact hpk)
          have e9 : nth (cnt ws n) i = x := HX.out.symm
          rw [e9] at c1
          have C7 := Lib.hid (And.intro (C6.1.set_ i (x := x + 1) (by unfold Fit; omega)) (C6.2.setCell (p := ⟨w1.heap.size, i, none⟩) (Nat.le_refl _) (.int .i64 (x + 1))))
          rw [HC.out] at C7
          clear C6 hb ha C e9
          go_wp2
          go_roundw
          case rel => exact ⟨n + 1, by omega, by go_num, C7⟩
          case measure => simp [intOf]; omega
        · obtain rfl : n = s := by omega
          have BW := Lib.hid (B1.out.trans (C.out.2.mono B1.out.size))
          have WI := Lib.hid (W1.out.below C.out.2)
          by_cases hs : n = 0
          · subst hs
            have hE : weightE ws = 5 := by rw [HE.out, ← HSum.out]; rfl
            have HE5 := Lib.hid hE
            clear hE
            go_wp2_with fail
            refine (heavy_no none B 0 0 k d 0 ws 5 _ (by omega) (by omega) WI.out HE5.out (by omega)).mono ?_
            rintro e w6 ⟨A2, c2, rfl, -, hb⟩
            have BZ := Lib.hid (below_alloc (below3 BW.out hb) (.cells #[.slice A2 0 c2, .int .i64 0] 24))
            clear hb
            go_wp2
            go_ret
            exact ⟨rfl, BZ.out⟩
          · have hs' : ((n : Int) == 0) = false := by simpa using hs
            have I2 := C.out.1.ints
            rw [cnt_len, HL.out, HSum.out, cnt_all HN.out] at I2
            have I2 := Lib.hid I2
            go_wp2_with fail
            refine (sameInts_yes _ _ k _ _ _ _ I2.out WI.out).mono ?_
            rintro e w6 ⟨rfl, hb⟩
            have BZ := Lib.hid (below3 BW.out hb)
            clear hb
            go_wp2
            go_ret
            exact ⟨rfl, BZ.out⟩

theorem lheavy_any (B : Option Addr) (K d : Nat) (ws : List Int) (w : World) (hw : Ints w B K ws) :
    Calls Try.prog 6 #[.slice B K d] w (TrueAns w) := by
  by_cases h : 12 < K
  · exact lheavy_big B K d ws w hw h
  · exact lheavy_ok B K d ws w hw (by omega)

end Go.Proofs.Ytllanhboaoedmaa

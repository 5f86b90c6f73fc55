/-
  Layer 13: the document's Left.
-/
import Derived.Test.YtlbmlhcphoiaeaaDoorStf
namespace Go.Proofs.YtlbmlhcphoiaeaaDoor
open Go.RowKit

/-- What lies there between the rounds of the document's Left: its task. -/
structure LfI (w wr : World) (cs : Array Value) : Prop where
  t : Bk wr w.heap.size 24 cs
  b : Below w.heap.size w wr

set_option maxRecDepth 100000 in
set_option maxHeartbeats 4000000 in
theorem rleft_1 (t : Tk) (A : Option Addr) (n c : Nat) (p : List I3) (w : World) (hp : Prog w A n c p) (h : ¬ okF t p) : Calls Tryd.prog 15 #[.agg (tc t), .slice A n c] w (Ret2 (leftR t p) w) := by
  have HN := Lib.hid hp.1
  have HP := Lib.hid hp
  have hn := Nat.le_trans hp.2.1.1 hp.2.1.2
  have hnc := hp.2.1.1
  have hcm := hp.2.1.2
  clear hp
  have HL := Lib.hid (leftR_no h)
  have HR := Lib.hid (okFB_no h)
  have HC := Lib.hid (fun (W : World) (h : Below w.heap.size w W) => rfits_any t A n c p W (HP.out.below h))
  clear h
  obtain ⟨id, tn, pg, pc, un, k0, k1, k2, k3, st, rn⟩ := t
  unfold tc at HC
  unfold tc
  dsimp only at HC ⊢
  obtain ⟨kb0, hb0⟩ := lies1 w #[.int .i64 id, .int .i64 tn, .int .i64 pg, .int .i64 pc, .int .i64 un, .int .i64 k0, .int .i64 k1, .int .i64 k2, .int .i64 k3, .int .i64 st, .int .i64 rn] 24
  obtain ⟨V, hV⟩ : ∃ V, w.alloc (.cells #[.int .i64 id, .int .i64 tn, .int .i64 pg, .int .i64 pc, .int .i64 un, .int .i64 k0, .int .i64 k1, .int .i64 k2, .int .i64 k3, .int .i64 st, .int .i64 rn] 24) = V := ⟨_, rfl⟩
  rw [hV] at hb0 kb0
  have HV := Lib.hid hV
  have BB := Lib.hid hb0
  have Kt := Lib.hid kb0
  have HBt : Hid (w.heap.size ≤ w.heap.size) := Lib.hid (by omega)
  clear hV hb0 kb0
  go_enter Tryd.func15, Tryd.ntmps15
  go_upto_region 1 with fail
  rw [HV.out]
  clear HV
  obtain ⟨qt_0, qt_1, qt_2, qt_3, qt_4, qt_5, qt_6, qt_7, qt_8, qt_9, qt_10⟩ := Kt.out.c11
  have lt := Kt.out.lt
  go_wp2_with fail
  refine (HC.out _ BB.out).mono ?_
  rw [HR.out]
  rintro e U1 ⟨rfl, bU1⟩
  clear qt_0 qt_1 qt_2 qt_3 qt_4 qt_5 qt_6 qt_7 qt_8 qt_9 qt_10 lt
  replace BB := Lib.hid (below3 BB.out bU1)
  replace Kt := Lib.hid (Kt.out.below bU1 Kt.out.lt)
  clear bU1
  go_wp2
  go_ret2
  exact Ret2.of HL.out rfl BB.out

set_option maxRecDepth 100000 in
set_option maxHeartbeats 4000000 in
theorem rleft_2 (t : Tk) (A : Option Addr) (n c : Nat) (p : List I3) (w : World) (hp : Prog w A n c p) (h : okF t p) (hl : t.pc < n) : Calls Tryd.prog 15 #[.agg (tc t), .slice A n c] w (Ret2 (leftR t p) w) := by
  have HN := Lib.hid hp.1
  have HP := Lib.hid hp
  have hn := Nat.le_trans hp.2.1.1 hp.2.1.2
  have hnc := hp.2.1.1
  have hcm := hp.2.1.2
  clear hp
  have HR := Lib.hid (okFB_yes h)
  have HC := Lib.hid (fun (W : World) (h : Below w.heap.size w W) => rfits_any t A n c p W (HP.out.below h))
  obtain ⟨k, hk, h1, h2, h3, h4, -, -, h7⟩ := h.num
  rw [HN.out] at h1 h2
  have HL1 := Lib.hid (fun q => leftR_out h hk q)
  have HL2 := Lib.hid (fun q => leftR_end h hk q)
  have HL3 := Lib.hid (fun q r => leftR_in h hk q r)
  have HOK := Lib.hid (h.2.1)
  have hn1 : 1 ≤ n := by have := h.2.1.1; rw [HN.out] at this; exact this
  obtain ⟨id, tn, pg, pc, un, k0, k1, k2, k3, st, rn⟩ := t
  unfold tc at HC
  unfold tc
  dsimp only at HC hk h3 h4 h7 hl ⊢
  subst hk
  obtain ⟨b, o, rfl, -⟩ := HP.out.at_ (j := 0) (by omega)
  have hkc : k ≤ c := by omega
  clear h7 h
  obtain ⟨kb0, hb0⟩ := lies1 w #[.int .i64 id, .int .i64 tn, .int .i64 pg, .int .i64 k, .int .i64 un, .int .i64 k0, .int .i64 k1, .int .i64 k2, .int .i64 k3, .int .i64 st, .int .i64 rn] 24
  obtain ⟨V, hV⟩ : ∃ V, w.alloc (.cells #[.int .i64 id, .int .i64 tn, .int .i64 pg, .int .i64 k, .int .i64 un, .int .i64 k0, .int .i64 k1, .int .i64 k2, .int .i64 k3, .int .i64 st, .int .i64 rn] 24) = V := ⟨_, rfl⟩
  rw [hV] at hb0 kb0
  have HV := Lib.hid hV
  have BB := Lib.hid hb0
  have Kt := Lib.hid kb0
  have HBt : Hid (w.heap.size ≤ w.heap.size) := Lib.hid (by omega)
  clear hV hb0 kb0
  go_enter Tryd.func15, Tryd.ntmps15
  go_upto_region 1 with fail
  rw [HV.out]
  clear HV
  obtain ⟨qt_0, qt_1, qt_2, qt_3, qt_4, qt_5, qt_6, qt_7, qt_8, qt_9, qt_10⟩ := Kt.out.c11
  have lt := Kt.out.lt
  go_wp2_with fail
  refine (HC.out _ BB.out).mono ?_
  rw [HR.out]
  rintro e U1 ⟨rfl, bU1⟩
  clear qt_0 qt_1 qt_2 qt_3 qt_4 qt_5 qt_6 qt_7 qt_8 qt_9 qt_10 lt
  replace BB := Lib.hid (below3 BB.out bU1)
  replace Kt := Lib.hid (Kt.out.below bU1 Kt.out.lt)
  clear bU1
  obtain ⟨qt_0, qt_1, qt_2, qt_3, qt_4, qt_5, qt_6, qt_7, qt_8, qt_9, qt_10⟩ := Kt.out.c11
  have lt := Kt.out.lt
  have II : Hid (LfI w _ #[.int .i64 id, .int .i64 tn, .int .i64 pg, .int .i64 k, .int .i64 un, .int .i64 k0, .int .i64 k1, .int .i64 k2, .int .i64 k3, .int .i64 st, .int .i64 rn]) := Lib.hid ⟨Kt.out, BB.out⟩
  go_wp2_with fail
  clear Kt BB HC
  clear qt_0 qt_1 qt_2 qt_3 qt_4 qt_5 qt_6 qt_7 qt_8 qt_9 qt_10 lt
  go_loopw [20] (fun v wr => ∃ j : Nat, j ≤ k ∧ v = .int .i64 j ∧ Hid (∀ i, i < j → jO p i ≠ 9) ∧ Hid (LfI w wr #[.int .i64 id, .int .i64 tn, .int .i64 pg, .int .i64 k, .int .i64 un, .int .i64 k0, .int .i64 k1, .int .i64 k2, .int .i64 k3, .int .i64 st, .int .i64 rn])) (fun v _ => k - (intOf v).toNat)
  case atStart => exact ⟨0, Nat.zero_le _, rfl, Lib.hid (fun i hi => absurd hi (by omega)), II⟩
  case round =>
    rename World => wr
    obtain ⟨j, hj, rfl, HQ, HI⟩ := hrel
    clear II
    by_cases hlt : j < k
    · obtain ⟨b2, o2, hbo, hbl, g0, g1, g2⟩ := (HP.out.below HI.out.b).at_ (j := j) (by omega)
      injection hbo with hbo
      injection hbo with hb1 hb2
      subst hb1 hb2
      have kn := HI.out.t.alloc (.cells #[.int .i64 (jO p j), .int .i64 (jA p j), .int .i64 (jB p j)] 37)
      have bn := HI.out.b.alloc HI.out.b.size (.cells #[.int .i64 (jO p j), .int .i64 (jA p j), .int .i64 (jB p j)] 37)
      have I2 : Hid (LfI w _ #[.int .i64 id, .int .i64 tn, .int .i64 pg, .int .i64 k, .int .i64 un, .int .i64 k0, .int .i64 k1, .int .i64 k2, .int .i64 k3, .int .i64 st, .int .i64 rn]) := Lib.hid ⟨kn, bn⟩
      clear kn bn
      by_cases hx : jO p j = 9
      · have hx1 : (jO p j == 9) = true := by simpa using hx
        have HO : Hid (outB p k = true) := Lib.hid (outB_iff.2 ⟨j, hlt, hx⟩)
        clear hx
        go_wp2
        go_ret2
        exact Ret2.of (HL1.out HO.out) rfl I2.out.b
      · have hx1 : (jO p j == 9) = false := by simpa using hx
        have HQ2 : Hid (∀ i, i < j + 1 → jO p i ≠ 9) := Lib.hid (fun i hi => by
      rcases Nat.lt_or_ge i j with e | e
      · exact HQ.out i e
      · obtain rfl : i = j := by omega
        exact hx)
        clear hx HQ
        go_wp2
        go_roundw
        case rel => exact ⟨j + 1, by omega, by go_num, HQ2, I2⟩
        case measure => simp [intOf]; omega
    · have HO : Hid (outB p k = false) := Lib.hid (outB_false.2 fun i hi => HQ.out i (by omega))
      have Kt := Lib.hid HI.out.t
      have BB := Lib.hid HI.out.b
      clear HI HQ
      have hkn : k < n := by omega
      have HX := Lib.hid (HL3.out (by rw [HN.out]; exact hkn) HO.out)
      have HPD := Lib.hid (fun (W : World) (h : Below w.heap.size w W) => (HP.out.below h).drop hkn)
      have HOD := Lib.hid (okP_drop HOK.out (by rw [HN.out]; exact hkn))
      obtain ⟨qt_0, qt_1, qt_2, qt_3, qt_4, qt_5, qt_6, qt_7, qt_8, qt_9, qt_10⟩ := Kt.out.c11
      have lt := Kt.out.lt
      go_wp2_with fail
      refine (run_any _ _ _ _ _ (HPD.out _ BB.out)).mono ?_
      rintro e U71 ⟨rfl, bU71⟩
      clear qt_0 qt_1 qt_2 qt_3 qt_4 qt_5 qt_6 qt_7 qt_8 qt_9 qt_10 lt
      replace BB := Lib.hid (below3 BB.out bU71)
      replace Kt := Lib.hid (Kt.out.below bU71 Kt.out.lt)
      clear bU71
      have hrl : runLen (p.drop k) ≤ n - k := by have := runLen_le (p.drop k); rw [List.length_drop, HN.out] at this; exact this
      have HUN : Hid (units (p.drop k) = unitsK (p.drop k) (runLen (p.drop k))) := Lib.hid rfl
      generalize hm : runLen (p.drop k) = m at hrl HUN ⊢
      have HM := Lib.hid hm
      clear hm
      obtain ⟨qt_0, qt_1, qt_2, qt_3, qt_4, qt_5, qt_6, qt_7, qt_8, qt_9, qt_10⟩ := Kt.out.c11
      have lt := Kt.out.lt
      have I3 : Hid (LfI w _ #[.int .i64 id, .int .i64 tn, .int .i64 pg, .int .i64 k, .int .i64 un, .int .i64 k0, .int .i64 k1, .int .i64 k2, .int .i64 k3, .int .i64 st, .int .i64 rn]) := Lib.hid ⟨Kt.out, BB.out⟩
      go_wp2_with fail
      clear Kt BB
      clear qt_0 qt_1 qt_2 qt_3 qt_4 qt_5 qt_6 qt_7 qt_8 qt_9 qt_10 lt
      go_loopw [8, 37] (fun u v wr => ∃ i : Nat, i ≤ m ∧ v = .int .i64 i ∧ u = .int .i64 (unitsK (p.drop k) i - un) ∧ Hid (LfI w wr #[.int .i64 id, .int .i64 tn, .int .i64 pg, .int .i64 k, .int .i64 un, .int .i64 k0, .int .i64 k1, .int .i64 k2, .int .i64 k3, .int .i64 st, .int .i64 rn])) (fun _ v _ => m - (intOf v).toNat)
      case atStart => exact ⟨0, Nat.zero_le _, rfl, by unfold unitsK; go_num, I3⟩
      case round =>
        rename World => ws
        obtain ⟨i, hi, rfl, rfl, HI⟩ := hrel
        clear I3
        have hu := units_room HOD.out (k := i) (by rw [HM.out]; exact hi)
        by_cases hli : i < m
        · have hu1 := units_room HOD.out (k := i + 1) (by rw [HM.out]; omega)
          obtain ⟨b2, o2, hbo, hbl, g0, g1, g2⟩ := (HPD.out _ HI.out.b).at_ (j := i) (by omega)
          injection hbo with hbo
          injection hbo with hb1 hb2
          subst hb1 hb2
          have kn := fun X => HI.out.t.alloc X
          have bn := fun X => HI.out.b.alloc HI.out.b.size X
          have I4 := Lib.hid (fun X => (⟨kn X, bn X⟩ : LfI w _ #[.int .i64 id, .int .i64 tn, .int .i64 pg, .int .i64 k, .int .i64 un, .int .i64 k0, .int .i64 k1, .int .i64 k2, .int .i64 k3, .int .i64 st, .int .i64 rn]))
          clear kn bn
          by_cases hx : jO (p.drop k) i = 1
          · have hx1 : (jO (p.drop k) i == 1) = true := by simpa using hx
            have HS := Lib.hid (unit_step hx)
            have hq : 0 ≤ unitsK (p.drop k) i + jA (p.drop k) i ∧ unitsK (p.drop k) i + jA (p.drop k) i ≤ 3200 := by rw [HS.out]; exact hu1
            clear hx hu1
            generalize unitsK (p.drop k) i = s at hu hq HS ⊢
            go_wp2
            go_roundw
            case rel => exact ⟨i + 1, by omega, by go_num, by rw [← HS.out]; go_num, I4.out _⟩
            case measure => simp [intOf]; omega
          · have hx1 : (jO (p.drop k) i == 1) = false := by simpa using hx
            have HS := Lib.hid (unit_other hx)
            clear hx hu1
            generalize unitsK (p.drop k) i = s at hu HS ⊢
            go_wp2
            go_roundw
            case rel => exact ⟨i + 1, by omega, by go_num, by rw [← HS.out]; go_num, I4.out _⟩
            case measure => simp [intOf]; omega
        · obtain rfl : i = m := by omega
          have HE : Hid (unitsK (p.drop k) i = units (p.drop k)) := Lib.hid HUN.out.symm
          go_wp2
          go_ret2
          exact Ret2.of HX.out (by rw [← HE.out]; rfl) HI.out.b

set_option maxRecDepth 100000 in
set_option maxHeartbeats 4000000 in
theorem rleft_3 (t : Tk) (A : Option Addr) (n c : Nat) (p : List I3) (w : World) (hp : Prog w A n c p) (h : okF t p) (hl : ¬ t.pc < n) : Calls Tryd.prog 15 #[.agg (tc t), .slice A n c] w (Ret2 (leftR t p) w) := by
  have HN := Lib.hid hp.1
  have HP := Lib.hid hp
  have hn := Nat.le_trans hp.2.1.1 hp.2.1.2
  have hnc := hp.2.1.1
  have hcm := hp.2.1.2
  clear hp
  have HR := Lib.hid (okFB_yes h)
  have HC := Lib.hid (fun (W : World) (h : Below w.heap.size w W) => rfits_any t A n c p W (HP.out.below h))
  obtain ⟨k, hk, h1, h2, h3, h4, -, -, h7⟩ := h.num
  rw [HN.out] at h1 h2
  have HL1 := Lib.hid (fun q => leftR_out h hk q)
  have HL2 := Lib.hid (fun q => leftR_end h hk q)
  have HL3 := Lib.hid (fun q r => leftR_in h hk q r)
  have HOK := Lib.hid (h.2.1)
  have hn1 : 1 ≤ n := by have := h.2.1.1; rw [HN.out] at this; exact this
  have hun : t.un = 0 := by
    rcases h.2.2.2 with e | ⟨e, _⟩
    · exact e
    · rw [HN.out] at e; omega
  obtain ⟨id, tn, pg, pc, un, k0, k1, k2, k3, st, rn⟩ := t
  unfold tc at HC
  unfold tc
  dsimp only at HC hk h3 h4 h7 hl hun ⊢
  subst hk
  subst hun
  obtain ⟨b, o, rfl, -⟩ := HP.out.at_ (j := 0) (by omega)
  have hkc : k ≤ c := by omega
  clear h7 h
  obtain ⟨kb0, hb0⟩ := lies1 w #[.int .i64 id, .int .i64 tn, .int .i64 pg, .int .i64 k, .int .i64 0, .int .i64 k0, .int .i64 k1, .int .i64 k2, .int .i64 k3, .int .i64 st, .int .i64 rn] 24
  obtain ⟨V, hV⟩ : ∃ V, w.alloc (.cells #[.int .i64 id, .int .i64 tn, .int .i64 pg, .int .i64 k, .int .i64 0, .int .i64 k0, .int .i64 k1, .int .i64 k2, .int .i64 k3, .int .i64 st, .int .i64 rn] 24) = V := ⟨_, rfl⟩
  rw [hV] at hb0 kb0
  have HV := Lib.hid hV
  have BB := Lib.hid hb0
  have Kt := Lib.hid kb0
  have HBt : Hid (w.heap.size ≤ w.heap.size) := Lib.hid (by omega)
  clear hV hb0 kb0
  go_enter Tryd.func15, Tryd.ntmps15
  go_upto_region 1 with fail
  rw [HV.out]
  clear HV
  obtain ⟨qt_0, qt_1, qt_2, qt_3, qt_4, qt_5, qt_6, qt_7, qt_8, qt_9, qt_10⟩ := Kt.out.c11
  have lt := Kt.out.lt
  go_wp2_with fail
  refine (HC.out _ BB.out).mono ?_
  rw [HR.out]
  rintro e U1 ⟨rfl, bU1⟩
  clear qt_0 qt_1 qt_2 qt_3 qt_4 qt_5 qt_6 qt_7 qt_8 qt_9 qt_10 lt
  replace BB := Lib.hid (below3 BB.out bU1)
  replace Kt := Lib.hid (Kt.out.below bU1 Kt.out.lt)
  clear bU1
  obtain ⟨qt_0, qt_1, qt_2, qt_3, qt_4, qt_5, qt_6, qt_7, qt_8, qt_9, qt_10⟩ := Kt.out.c11
  have lt := Kt.out.lt
  have II : Hid (LfI w _ #[.int .i64 id, .int .i64 tn, .int .i64 pg, .int .i64 k, .int .i64 0, .int .i64 k0, .int .i64 k1, .int .i64 k2, .int .i64 k3, .int .i64 st, .int .i64 rn]) := Lib.hid ⟨Kt.out, BB.out⟩
  go_wp2_with fail
  clear Kt BB HC
  clear qt_0 qt_1 qt_2 qt_3 qt_4 qt_5 qt_6 qt_7 qt_8 qt_9 qt_10 lt
  go_loopw [20] (fun v wr => ∃ j : Nat, j ≤ k ∧ v = .int .i64 j ∧ Hid (∀ i, i < j → jO p i ≠ 9) ∧ Hid (LfI w wr #[.int .i64 id, .int .i64 tn, .int .i64 pg, .int .i64 k, .int .i64 0, .int .i64 k0, .int .i64 k1, .int .i64 k2, .int .i64 k3, .int .i64 st, .int .i64 rn])) (fun v _ => k - (intOf v).toNat)
  case atStart => exact ⟨0, Nat.zero_le _, rfl, Lib.hid (fun i hi => absurd hi (by omega)), II⟩
  case round =>
    rename World => wr
    obtain ⟨j, hj, rfl, HQ, HI⟩ := hrel
    clear II
    by_cases hlt : j < k
    · obtain ⟨b2, o2, hbo, hbl, g0, g1, g2⟩ := (HP.out.below HI.out.b).at_ (j := j) (by omega)
      injection hbo with hbo
      injection hbo with hb1 hb2
      subst hb1 hb2
      have kn := HI.out.t.alloc (.cells #[.int .i64 (jO p j), .int .i64 (jA p j), .int .i64 (jB p j)] 37)
      have bn := HI.out.b.alloc HI.out.b.size (.cells #[.int .i64 (jO p j), .int .i64 (jA p j), .int .i64 (jB p j)] 37)
      have I2 : Hid (LfI w _ #[.int .i64 id, .int .i64 tn, .int .i64 pg, .int .i64 k, .int .i64 0, .int .i64 k0, .int .i64 k1, .int .i64 k2, .int .i64 k3, .int .i64 st, .int .i64 rn]) := Lib.hid ⟨kn, bn⟩
      clear kn bn
      by_cases hx : jO p j = 9
      · have hx1 : (jO p j == 9) = true := by simpa using hx
        have HO : Hid (outB p k = true) := Lib.hid (outB_iff.2 ⟨j, hlt, hx⟩)
        clear hx
        go_wp2
        go_ret2
        exact Ret2.of (HL1.out HO.out) rfl I2.out.b
      · have hx1 : (jO p j == 9) = false := by simpa using hx
        have HQ2 : Hid (∀ i, i < j + 1 → jO p i ≠ 9) := Lib.hid (fun i hi => by
      rcases Nat.lt_or_ge i j with e | e
      · exact HQ.out i e
      · obtain rfl : i = j := by omega
        exact hx)
        clear hx HQ
        go_wp2
        go_roundw
        case rel => exact ⟨j + 1, by omega, by go_num, HQ2, I2⟩
        case measure => simp [intOf]; omega
    · have HO : Hid (outB p k = false) := Lib.hid (outB_false.2 fun i hi => HQ.out i (by omega))
      have Kt := Lib.hid HI.out.t
      have BB := Lib.hid HI.out.b
      clear HI HQ
      have HX := Lib.hid (HL2.out (by rw [HN.out]; omega))
      have HPD : Hid (∀ (W : World) (o : Option Addr) (d : Nat), d ≤ 9223372036854775807 → Prog W o (n - k) d []) := Lib.hid (fun W o d hd => by rw [show n - k = 0 by omega]; exact Prog.nil_ W o hd)
      have HLe := Lib.hid HN.out
      obtain ⟨qt_0, qt_1, qt_2, qt_3, qt_4, qt_5, qt_6, qt_7, qt_8, qt_9, qt_10⟩ := Kt.out.c11
      have lt := Kt.out.lt
      go_wp2_with fail
      all_goals
        refine (run_any _ _ _ _ _ (HPD.out _ _ _ (by omega))).mono ?_
        rintro e U75 ⟨rfl, b75⟩
        clear qt_0 qt_1 qt_2 qt_3 qt_4 qt_5 qt_6 qt_7 qt_8 qt_9 qt_10 lt
        replace Kt := Lib.hid (Kt.out.below b75 Kt.out.lt)
        replace BB := Lib.hid (below3 BB.out b75)
        clear b75
        rw [show runLen [] = 0 from rfl]
        have I3 : Hid (LfI w _ #[.int .i64 id, .int .i64 tn, .int .i64 pg, .int .i64 k, .int .i64 0, .int .i64 k0, .int .i64 k1, .int .i64 k2, .int .i64 k3, .int .i64 st, .int .i64 rn]) := Lib.hid ⟨Kt.out, BB.out⟩
        go_wp2_with fail
        clear Kt BB
        go_loopw [8, 37] (fun u v wr => v = .int .i64 0 ∧ u = .int .i64 0 ∧ Hid (LfI w wr #[.int .i64 id, .int .i64 tn, .int .i64 pg, .int .i64 k, .int .i64 0, .int .i64 k0, .int .i64 k1, .int .i64 k2, .int .i64 k3, .int .i64 st, .int .i64 rn])) (fun _ v _ => 0)
        case atStart => exact ⟨rfl, rfl, I3⟩
        case round =>
          obtain ⟨rfl, rfl, HI⟩ := hrel
          go_wp2
          go_ret2
          exact Ret2.of HX.out rfl HI.out.b

theorem rleft_any (t : Tk) (A : Option Addr) (n c : Nat) (p : List I3) (w : World) (hp : Prog w A n c p) : Calls Tryd.prog 15 #[.agg (tc t), .slice A n c] w (Ret2 (leftR t p) w) := by
  by_cases h : okF t p
  · by_cases hl : t.pc < n
    · exact rleft_2 t A n c p w hp h hl
    · exact rleft_3 t A n c p w hp h hl
  · exact rleft_1 t A n c p w hp h

end Go.Proofs.YtlbmlhcphoiaeaaDoor

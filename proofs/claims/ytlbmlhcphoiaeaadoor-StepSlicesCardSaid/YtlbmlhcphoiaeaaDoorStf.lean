/-
  Layer 13: the program's Left.
-/
import Derived.Test.YtlbmlhcphoiaeaaDoorStm
import Derived.Test.YtlbmlhcphoiaeaaDoorUnits
namespace Go.Proofs.YtlbmlhcphoiaeaaDoor
open Go.RowKit

section
variable {t : Tk} {p : List I3} {k : Nat}
theorem leftR_no (h : ¬ okF t p) : leftR t p = (0, 1) := by unfold leftR; rw [okFB_no h]; rfl
theorem leftR_out (h : okF t p) (hk : t.pc = k) (q : outB p k = true) : leftR t p = (0, 0) := by
  unfold leftR; rw [if_pos (okFB_yes h), hk, Int.toNat_natCast, if_pos q]
theorem okP_drop (h : okP p) (hk : k < p.length) : okP (p.drop k) := by
  refine ⟨by rw [List.length_drop]; omega, by rw [List.length_drop]; have := h.2.1; omega, fun j hj => ?_⟩
  rw [List.length_drop] at hj
  have : ith (p.drop k) j = ith p (k + j) := by simp [ith, List.getD]
  rw [this]
  exact h.2.2 _ (by omega)
theorem leftR_end (h : okF t p) (hk : t.pc = k) (q : k = p.length) : leftR t p = (0, 0) := by
  unfold leftR
  rw [if_pos (okFB_yes h), hk, Int.toNat_natCast]
  split
  · rfl
  · have hu : t.un = 0 := by
      rcases h.2.2.2 with e | ⟨e, _⟩
      · exact e
      · omega
    rw [show p.drop k = [] by rw [q]; exact List.drop_length, hu]; rfl
theorem leftR_in (h : okF t p) (hk : t.pc = k) (_ : k < p.length) (q : outB p k = false) : leftR t p = (units (p.drop k) - t.un, 0) := by
  unfold leftR; rw [if_pos (okFB_yes h), hk, Int.toNat_natCast, if_neg (by rw [q]; decide)]
open Classical in
theorem outB_iff : outB p k = true ↔ ∃ j, j < k ∧ jO p j = 9 := by unfold outB; exact decide_eq_true_iff
theorem outB_false : outB p k = false ↔ ∀ j, j < k → jO p j ≠ 9 := by
  rw [← Bool.not_eq_true, outB_iff]
  exact ⟨fun h j hj e => h ⟨j, hj, e⟩, fun h ⟨j, hj, e⟩ => h j hj e⟩
theorem jO_take {j : Nat} (h : j < k) : jO (p.take k) j = jO p j := by unfold jO; rw [ith_take h]
theorem outB_yes {n : Nat} (_ : p.length = n) (_ : k ≤ n) (h : ∃ j, j < k ∧ qExit (p.take k) j = true) : outB p k = true := by
  obtain ⟨j, hj, e⟩ := h
  refine outB_iff.2 ⟨j, hj, ?_⟩
  unfold qExit at e
  rw [jO_take hj] at e
  simpa using e
theorem outB_no {n : Nat} (_ : k ≤ n) (h : ∀ j, j < k → qExit (p.take k) j = false) : outB p k = false := outB_false.2 fun j hj e => by
  have := h j hj
  unfold qExit at this
  rw [jO_take hj] at this
  simp [e] at this
end

theorem ith_drop (p : List I3) (k j : Nat) : ith (p.drop k) j = ith p (k + j) := by simp [ith, List.getD]
/-- What is left of it. -/
theorem Prog.drop {w : World} {b o n c : Nat} {p : List I3} (h : Prog w (some ⟨b, o, none⟩) n c p) {k : Nat} (hk : k < n) : Prog w (some ⟨b, o + k * 3, none⟩) (n - k) (c - k) (p.drop k) := by
  have h1 := h.1
  have h2 := h.2.1
  refine ⟨by rw [List.length_drop]; omega, by omega, fun x hx => h.2.2.1 x (List.mem_of_mem_drop hx), fun hn => ?_⟩
  obtain ⟨b', o', e, hb, hc⟩ := h.2.2.2 (by omega)
  injection e with e
  injection e with e1 e2
  subst e1 e2
  refine ⟨b, o + k * 3, rfl, hb, fun j hj => ?_⟩
  obtain ⟨c0, c1, c2⟩ := hc (k + j) (by omega)
  unfold jO jA jB at *
  rw [ith_drop]
  rw [show o + k * 3 + j * 3 = o + (k + j) * 3 by omega]
  exact ⟨c0, c1, c2⟩

theorem isOut_any (o a b : Int) (w : World) : Calls Tryd.prog 28 #[.agg #[.int .i64 o, .int .i64 a, .int .i64 b]] w (RetB (.bool (o == 9)) w) := by
  go_enter Tryd.func28, Tryd.ntmps28
  go_wp2
  go_ret
  exact RetB.of rfl ((Below.refl _ _).alloc (Nat.le_refl _) _)

set_option maxHeartbeats 1000000 in
theorem index_out (A : Option Addr) (n c : Nat) (p : List I3) (w : World) (hp : Prog w A n c p) :
    Calls Tryd.prog 40 #[.slice A n c, .func (.func 28) #[] #[]] w (FirstIs (qExit p) n w) := by
  have HP := Lib.hid hp
  have hn := Nat.le_trans hp.2.1.1 hp.2.1.2
  clear hp
  go_enter Tryd.func40, Tryd.ntmps40
  go_wp2
  go_loopw [8] (fun t wr => FindRel (qExit p) n w t wr) (fun t _ => n - (intOf t).toNat)
  case atStart => exact ⟨0, Nat.zero_le _, rfl, fun j hj => absurd hj (by omega), Below.refl _ _⟩
  case round =>
    obtain ⟨k, hk, rfl, hq, hb⟩ := hrel
    have HQ := Lib.hid hq
    have HB := Lib.hid hb
    clear hq hb
    by_cases hlt : k < n
    · obtain ⟨b, o, rfl, hbl, h0, h1, h2⟩ := (HP.out.below HB.out).at_ hlt
      go_wp2_with fail
      refine (isOut_any _ _ _ _).mono ?_
      rintro e w1 ⟨rfl, hb1⟩
      have HB1 := Lib.hid (below3 HB.out hb1)
      clear hb1
      by_cases hx : (jO p k == 9) = true
      · go_wp2
        go_ret
        exact ⟨k, rfl, .inr ⟨k, hlt, rfl, hx, HQ.out⟩, HB1.out⟩
      · replace hx := bool_no hx
        go_wp2
        go_roundw
        case rel => exact ⟨k + 1, by omega, by go_num, fun j hj => (by
          rcases Nat.lt_or_ge j k with h | h
          · exact HQ.out j h
          · obtain rfl : j = k := by omega
            exact hx), HB1.out⟩
        case measure => simp [intOf]; omega
    · go_wp2
      go_ret
      exact ⟨-1, rfl, .inl ⟨rfl, fun j hj => HQ.out j (by omega)⟩, HB.out⟩

theorem contains_out (A : Option Addr) (n c : Nat) (p : List I3) (w : World) (hp : Prog w A n c p) :
    Calls Tryd.prog 27 #[.slice A n c, .func (.func 28) #[] #[]] w (SomeIs (qExit p) n w) := by
  go_enter Tryd.func27, Tryd.ntmps27
  go_wp2_with fail
  refine (index_out A n c p w hp).mono ?_
  rintro e w1 ⟨r, rfl, hr, hb1⟩
  have HR := Lib.hid hr
  have HB := Lib.hid hb1
  clear hr hb1
  go_wp2
  go_ret
  refine ⟨decide (0 ≤ r), rfl, fun h => ?_, fun h => ?_, HB.out⟩
  · have h := of_decide_eq_true h
    rcases HR.out with ⟨h1, _⟩ | ⟨k, hk, h1, h2, _⟩
    · omega
    · exact ⟨k, hk, h2⟩
  · have h := of_decide_eq_false h
    rcases HR.out with ⟨_, h1⟩ | ⟨k, hk, h1, h2, _⟩
    · exact h1
    · omega

set_option maxRecDepth 100000 in
set_option maxHeartbeats 4000000 in
theorem left_1 (t : Tk) (A : Option Addr) (n c : Nat) (p : List I3) (w : World) (hp : Prog w A n c p) (h : ¬ okF t p) : Calls Tryd.prog 14 #[.agg (tc t), .slice A n c] w (Ret2 (leftR t p) w) := by
  have HN := Lib.hid hp.1
  have HP := Lib.hid hp
  have hn := Nat.le_trans hp.2.1.1 hp.2.1.2
  have hnc := hp.2.1.1
  have hcm := hp.2.1.2
  clear hp
  have HL := Lib.hid (leftR_no h)
  have HR := Lib.hid (okFB_no h)
  have HC := Lib.hid (fun (W : World) (h : Below w.heap.size w W) => fits_any t A n c p W (HP.out.below h))
  clear h
  obtain ⟨id, tn, pg, pc, un, k0, k1, k2, k3, st, rn⟩ := t
  unfold tc at HC
  unfold tc
  dsimp only at HC ⊢
  obtain ⟨kb0, hb0⟩ := lies1 w #[.int .i64 id, .int .i64 tn, .int .i64 pg, .int .i64 pc, .int .i64 un, .int .i64 k0, .int .i64 k1, .int .i64 k2, .int .i64 k3, .int .i64 st, .int .i64 rn] 24
  obtain ⟨V, hV⟩ : ∃ V, w.alloc (.cells #[.int .i64 id, .int .i64 tn, .int .i64 pg, .int .i64 pc, .int .i64 un, .int .i64 k0, .int .i64 k1, .int .i64 k2, .int .i64 k3, .int .i64 st, .int .i64 rn] 24) = V := ⟨_, rfl⟩
  rw [hV] at hb0 kb0
  have HV := Lib.hid hV
  have BB := Lib.hid hb0
  have Kt := Lib.hid kb0
  have HBt : Hid (w.heap.size ≤ w.heap.size) := Lib.hid (by omega)
  clear hV hb0 kb0
  go_enter Tryd.func14, Tryd.ntmps14
  go_upto_region 1 with fail
  rw [HV.out]
  clear HV
  obtain ⟨qt_0, qt_1, qt_2, qt_3, qt_4, qt_5, qt_6, qt_7, qt_8, qt_9, qt_10⟩ := Kt.out.c11
  have lt := Kt.out.lt
  go_wp2_with fail
  refine (HC.out _ BB.out).mono ?_
  rw [HR.out]
  rintro e U1 ⟨rfl, bU1⟩
  clear qt_0 qt_1 qt_2 qt_3 qt_4 qt_5 qt_6 qt_7 qt_8 qt_9 qt_10 lt
  replace BB := Lib.hid (below3 BB.out bU1)
  replace Kt := Lib.hid (Kt.out.below bU1 Kt.out.lt)
  clear bU1
  go_wp2
  go_ret2
  exact Ret2.of HL.out rfl BB.out

set_option maxRecDepth 100000 in
set_option maxHeartbeats 4000000 in
theorem left_2 (t : Tk) (A : Option Addr) (n c : Nat) (p : List I3) (w : World) (hp : Prog w A n c p) (h : okF t p) : Calls Tryd.prog 14 #[.agg (tc t), .slice A n c] w (Ret2 (leftR t p) w) := by
  have HN := Lib.hid hp.1
  have HP := Lib.hid hp
  have hn := Nat.le_trans hp.2.1.1 hp.2.1.2
  have hnc := hp.2.1.1
  have hcm := hp.2.1.2
  clear hp
  have HR := Lib.hid (okFB_yes h)
  have HC := Lib.hid (fun (W : World) (h : Below w.heap.size w W) => fits_any t A n c p W (HP.out.below h))
  obtain ⟨k, hk, h1, h2, h3, h4, -, -, h7⟩ := h.num
  rw [HN.out] at h1 h2
  have HL1 := Lib.hid (fun q => leftR_out h hk q)
  have HL2 := Lib.hid (fun q => leftR_end h hk q)
  have HL3 := Lib.hid (fun q r => leftR_in h hk q r)
  have HOK := Lib.hid (h.2.1)
  obtain ⟨id, tn, pg, pc, un, k0, k1, k2, k3, st, rn⟩ := t
  unfold tc at HC
  unfold tc
  dsimp only at HC hk h3 h4 h7 ⊢
  subst hk
  obtain ⟨kb0, hb0⟩ := lies1 w #[.int .i64 id, .int .i64 tn, .int .i64 pg, .int .i64 k, .int .i64 un, .int .i64 k0, .int .i64 k1, .int .i64 k2, .int .i64 k3, .int .i64 st, .int .i64 rn] 24
  obtain ⟨V, hV⟩ : ∃ V, w.alloc (.cells #[.int .i64 id, .int .i64 tn, .int .i64 pg, .int .i64 k, .int .i64 un, .int .i64 k0, .int .i64 k1, .int .i64 k2, .int .i64 k3, .int .i64 st, .int .i64 rn] 24) = V := ⟨_, rfl⟩
  rw [hV] at hb0 kb0
  have HV := Lib.hid hV
  have BB := Lib.hid hb0
  have Kt := Lib.hid kb0
  have HBt : Hid (w.heap.size ≤ w.heap.size) := Lib.hid (by omega)
  clear hV hb0 kb0
  go_enter Tryd.func14, Tryd.ntmps14
  go_upto_region 1 with fail
  rw [HV.out]
  clear HV
  obtain ⟨qt_0, qt_1, qt_2, qt_3, qt_4, qt_5, qt_6, qt_7, qt_8, qt_9, qt_10⟩ := Kt.out.c11
  have lt := Kt.out.lt
  go_wp2_with fail
  refine (HC.out _ BB.out).mono ?_
  rw [HR.out]
  rintro e U1 ⟨rfl, bU1⟩
  clear qt_0 qt_1 qt_2 qt_3 qt_4 qt_5 qt_6 qt_7 qt_8 qt_9 qt_10 lt
  replace BB := Lib.hid (below3 BB.out bU1)
  replace Kt := Lib.hid (Kt.out.below bU1 Kt.out.lt)
  clear bU1
  obtain ⟨qt_0, qt_1, qt_2, qt_3, qt_4, qt_5, qt_6, qt_7, qt_8, qt_9, qt_10⟩ := Kt.out.c11
  have lt := Kt.out.lt
  have hkc : k ≤ c := by omega
  go_wp2_with fail
  refine (contains_out _ k _ (p.take k) _ ((HP.out.below BB.out).take h1)).mono ?_
  rintro e U2 ⟨r, rfl, hr1, hr2, bU2⟩
  clear qt_0 qt_1 qt_2 qt_3 qt_4 qt_5 qt_6 qt_7 qt_8 qt_9 qt_10 lt
  replace BB := Lib.hid (below3 BB.out bU2)
  replace Kt := Lib.hid (Kt.out.below bU2 Kt.out.lt)
  clear bU2
  have HR1 := Lib.hid hr1
  have HR2 := Lib.hid hr2
  clear hr1 hr2
  obtain ⟨qt_0, qt_1, qt_2, qt_3, qt_4, qt_5, qt_6, qt_7, qt_8, qt_9, qt_10⟩ := Kt.out.c11
  have lt := Kt.out.lt
  cases r
  · by_cases hkn : k = n
    · have HO : Hid (outB p k = false) := Lib.hid (outB_no h1 (HR2.out rfl))
      have d1 : ((k : Int) == (n : Int)) = true := beq_iff_eq.2 (by omega)
      go_wp2
      go_ret2
      exact Ret2.of (HL2.out (by rw [HN.out]; exact hkn)) rfl BB.out
    · have HO : Hid (outB p k = false) := Lib.hid (outB_no h1 (HR2.out rfl))
      have d1 : ((k : Int) == (n : Int)) = false := beq_eq_false_iff_ne.2 (by omega)
      have hlt : k < n := by omega
      obtain ⟨b, o, rfl, -⟩ := HP.out.at_ hlt
      have hcn : (k : Int) ≤ (n : Int) := by omega
      have HX := Lib.hid (HL3.out (by rw [HN.out]; omega) HO.out)
      have HPd := fun (W : World) (h : Below w.heap.size w W) => (HP.out.below h).drop hlt
      have HUa := Lib.hid (unitsA_ok (okP_drop HOK.out (by rw [HN.out]; exact hlt)))
      have hur := units_room (okP_drop HOK.out (by rw [HN.out]; exact hlt)) (Nat.le_refl _)
      have HPD := Lib.hid HPd
      clear HPd
      rw [show unitsK (p.drop k) (runLen (p.drop k)) = units (p.drop k) from rfl] at hur
      generalize units (p.drop k) = us at hur HUa HX
      go_wp2_with fail
      refine (units_any _ _ _ _ _ (HPD.out _ BB.out)).mono ?_
      rintro e U53 ⟨rfl, bU53⟩
      clear qt_0 qt_1 qt_2 qt_3 qt_4 qt_5 qt_6 qt_7 qt_8 qt_9 qt_10 lt
      replace BB := Lib.hid (below3 BB.out bU53)
      replace Kt := Lib.hid (Kt.out.below bU53 Kt.out.lt)
      clear bU53
      rw [HUa.out]
      obtain ⟨qt_0, qt_1, qt_2, qt_3, qt_4, qt_5, qt_6, qt_7, qt_8, qt_9, qt_10⟩ := Kt.out.c11
      have lt := Kt.out.lt
      go_wp2
      go_ret2
      exact Ret2.of HX.out rfl BB.out
  · have HO : Hid (outB p k = true) := Lib.hid (outB_yes HP.out.1 h1 (HR1.out rfl))
    go_wp2
    go_ret2
    exact Ret2.of (HL1.out HO.out) rfl BB.out

theorem left_any (t : Tk) (A : Option Addr) (n c : Nat) (p : List I3) (w : World) (hp : Prog w A n c p) : Calls Tryd.prog 14 #[.agg (tc t), .slice A n c] w (Ret2 (leftR t p) w) := by
  by_cases h : okF t p
  · exact left_2 t A n c p w hp h
  · exact left_1 t A n c p w hp h

end Go.Proofs.YtlbmlhcphoiaeaaDoor

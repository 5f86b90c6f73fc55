/-
  The law PollWaits: those who wait, dropped one by one; as many as are armed: the walk.
-/
import Derived.Test.YtndbaoiabmldgaaLv
namespace Go.Proofs.Ytndbaoiabmldgaa
open Go.RowKit

theorem nth_drop {zs : List Int} {k : Nat} (h : k < zs.length) : zs.drop k = nth zs k :: zs.drop (k + 1) := by rw [nth_get h, List.drop_eq_getElem_cons h]
theorem Ints.drop_ {w : World} {g n : Nat} {zs : List Int} (h : Ints w (some ⟨g, 0, none⟩) n zs) {k : Nat} (hk : k ≤ n) : Ints w (some ⟨g, k, none⟩) (n - k) (zs.drop k) := by
  obtain ⟨h1, h2, h3, h4⟩ := h
  refine ⟨by rw [List.length_drop]; omega, by omega, fun z hz => h3 z (List.mem_of_mem_drop hz), fun hn => ?_⟩
  obtain ⟨b, o, e, hb, hc⟩ := h4 (by omega)
  injection e with e
  injection e with e1 e2 _
  subst e1 e2
  refine ⟨g, k, rfl, hb, fun j hj => ?_⟩
  have := hc (k + j) (by omega)
  rw [Nat.zero_add] at this
  rw [this]
  unfold nth
  simp [List.getD, List.getElem?_drop]

set_option maxRecDepth 100000 in
set_option maxHeartbeats 8000000 in
theorem lwaits_any (A : Option Addr) (n c : Nat) (l : List Ds) (w : World) (hx : Dss w A n c l) :
    Calls Try.prog 8 #[.slice A n c] w (TrueAns w) := by
  have HX := Lib.hid hx
  have LX := Lib.hid hx.1
  have hnc := hx.2.1
  clear hx
  go_enter Try.func8, Try.ntmps8
  go_wp2_with fail
  refine (live_any _).mono ?_
  rintro e w0 ⟨rfl, b0⟩
  replace HX := Lib.hid (HX.out.below b0)
  have BB := Lib.hid b0
  clear b0
  by_cases h60 : 60 < n
  · go_wp2_with fail
    go_ret
    exact ⟨rfl, BB.out⟩
  · have h60' : n ≤ 60 := by omega
    clear h60
    go_wp2_with fail
    refine (pwaitsl_any A n c l _ HX.out).mono ?_
    unfold waitsR
    by_cases hok : pollOk l
    · rw [if_pos hok]
      have HOK := Lib.hid hok
      rintro e w1 ⟨A1, c1, rfl, o1, b1, hcap⟩
      dsimp only at o1 hcap ⊢
      obtain ⟨ws, hws⟩ : ∃ ws, waitL l = ws := ⟨_, rfl⟩
      rw [hws] at o1 hcap ⊢
      obtain ⟨m, hm⟩ : ∃ m, ws.length = m := ⟨_, rfl⟩
      have i1 := o1.ints
      rw [hm] at hcap i1 ⊢
      have HI := Lib.hid i1
      have HWS := Lib.hid hws
      have HM := Lib.hid hm
      have hm60 : m ≤ 60 := by
        have := waitL_few l n
        rw [← LX.out, List.take_length, hws, hm, LX.out] at this
        omega
      have HO1 := Lib.hid o1
      replace HX := Lib.hid (HX.out.below b1)
      replace BB := Lib.hid (below3 BB.out b1)
      clear o1 i1 b1 hok hws hm
      have BW0 := Lib.hid (Below.refl w1.heap.size w1)
      go_wp2_with fail
      go_loopw [6, 40] (fun u6 t wr => ∃ k : Nat, k ≤ m ∧ t = .int .i64 k ∧ ∃ An cn p, u6 = .slice An n cn ∧ Hid (Dss wr An n cn p) ∧ Hid (pollOk p ∧ waitL p = ws.drop k) ∧ Hid (Below w1.heap.size w1 wr)) (fun _ t _ => m - (intOf t).toNat)
      case atStart => exact ⟨0, Nat.zero_le _, rfl, A, c, l, rfl, HX, Lib.hid ⟨HOK.out, by rw [HWS.out]; rfl⟩, BW0⟩
      case round =>
        clear BW0
        rename World => wr
        obtain ⟨k, hk, rfl, An, cn, p, rfl, DP, PP, BW⟩ := hrel
        by_cases hkm : k < m
        · obtain ⟨g, rfl, -, -, -, -⟩ := HO1.out.form (by rw [HM.out]; omega)
          have hkl : k < ws.length := by rw [HM.out]; exact hkm
          obtain ⟨bI, oI, eI, hbI, hcI⟩ := (HI.out.below BW.out).2.2.2 (by omega)
          injection eI with eI
          injection eI with e1 e2 _
          subst e1 e2
          have q0 := hcI k hkm
          rw [Nat.zero_add] at q0
          obtain ⟨z, hz⟩ : ∃ z, nth ws k = z := ⟨_, rfl⟩
          rw [hz] at q0
          obtain ⟨p2, hd, hok2, hw2, hl2⟩ := drop_first PP.out.1 (z := z) (rest := ws.drop (k + 1)) (by rw [PP.out.2, nth_drop hkl, hz])
          obtain ⟨rs, hrs⟩ : ∃ rs, ws.drop (k + 1) = rs := ⟨_, rfl⟩
          have hrl : rs.length = m - (k + 1) := by rw [← hrs, List.length_drop, HM.out]
          rw [hrs] at hw2
          have HD := Lib.hid hd
          have HW2 := Lib.hid hw2
          have HOK2 := Lib.hid hok2
          have HL2 := Lib.hid (show p2.length = n by rw [hl2]; exact DP.out.1)
          have HRS := Lib.hid hrs
          have HRL := Lib.hid hrl
          have hn1000 : n ≤ 1000 := by omega
          clear hd hw2 hok2 hl2 hrs hrl hz hcI
          go_wp2_with fail
          refine (pdrop_any An n cn p z _ DP.out hn1000).mono ?_
          rw [HD.out]
          rintro e w2 ⟨A2, c2, rfl, o2, b2⟩
          have d2 := o2.dss
          dsimp only at d2 ⊢
          rw [HL2.out] at d2 ⊢
          have D2 := Lib.hid d2
          have BW2 := Lib.hid (below3 BW.out b2)
          clear o2 b2 d2 q0 hbI
          go_wp2_with fail
          refine (pwaitsl_any A2 n c2 p2 _ D2.out).mono ?_
          unfold waitsR
          rw [if_pos HOK2.out, HW2.out]
          rintro e w3 ⟨A3, c3, rfl, o3, b3, hcap3⟩
          have i3 := o3.ints
          dsimp only at i3 hcap3 ⊢
          rw [HRL.out] at i3 hcap3 ⊢
          have I3 := Lib.hid i3
          have BW3 := Lib.hid (below3 BW2.out b3)
          have D3 := Lib.hid (D2.out.below b3)
          have I4 := Lib.hid ((HI.out.below BW3.out).drop_ (show k + 1 ≤ m by omega))
          rw [HRS.out] at I4
          clear o3 b3 i3 D2 BW2
          by_cases hcc : c1 ≤ k + 1
          · have I5 := Lib.hid (show Ints w3 (some ⟨g, 0, none⟩) (m - (k + 1)) rs from by
              have hz : m - (k + 1) = 0 := by omega
              have e : rs = [] := List.eq_nil_of_length_eq_zero (by rw [HRL.out]; exact hz)
              rw [hz, e]
              exact Ints.nil_ _ _)
            have hcc0 : m - (k + 1) ≤ 0 ∧ 0 ≤ 9223372036854775807 := by omega
            clear I4
            go_wp2_with fail
            refine (same1_any A3 _ _ c3 _ _ rs rs _ I3.out I5.out hcap3 hcc0).mono ?_
            rw [sameZ_refl]
            rintro e w4 ⟨rfl, b4⟩
            have D4 := Lib.hid (D3.out.below b4)
            have BW4 := Lib.hid (below3 BW3.out b4)
            have PP2 := Lib.hid (show pollOk p2 ∧ waitL p2 = ws.drop (k + 1) from ⟨HOK2.out, by rw [HW2.out, HRS.out]⟩)
            clear b4 D3 BW3 I3 I5 hcap3 hcc0
            go_wp2_with fail
            go_roundw
            case rel => exact ⟨k + 1, by omega, by go_num, A2, c2, p2, rfl, D4, PP2, BW4⟩
            case measure => simp [intOf]; omega
          · go_wp2_with fail
            clear hcc
            refine (same1_any A3 _ _ c3 _ _ rs rs _ I3.out I4.out hcap3 (by omega)).mono ?_
            rw [sameZ_refl]
            rintro e w4 ⟨rfl, b4⟩
            have D4 := Lib.hid (D3.out.below b4)
            have BW4 := Lib.hid (below3 BW3.out b4)
            have PP2 := Lib.hid (show pollOk p2 ∧ waitL p2 = ws.drop (k + 1) from ⟨HOK2.out, by rw [HW2.out, HRS.out]⟩)
            clear b4 D3 BW3 I3 I4 hcap3
            go_wp2_with fail
            go_roundw
            case rel => exact ⟨k + 1, by omega, by go_num, A2, c2, p2, rfl, D4, PP2, BW4⟩
            case measure => simp [intOf]; omega
        · obtain rfl : k = m := by omega
          have BC := Lib.hid (below3 BB.out BW.out)
          have HX2 := Lib.hid (HX.out.below BW.out)
          clear DP PP BW
          have BC0 := Lib.hid (Below.refl wr.heap.size wr)
          go_wp2_with fail
          go_loopw [13, 75] (fun u13 t wi => ∃ j : Nat, j ≤ n ∧ t = .int .i64 j ∧ (∃ q : Nat, u13 = .int .i64 (q : Int) ∧ q ≤ 60 ∧ Hid (q = (waitL (l.take j)).length)) ∧ Hid (Below wr.heap.size wr wi)) (fun _ t _ => n - (intOf t).toNat)
          case atStart => exact ⟨0, Nat.zero_le _, rfl, ⟨0, rfl, by omega, Lib.hid rfl⟩, BC0⟩
          case round =>
            clear BC0
            rename World => wi
            obtain ⟨j, hj, rfl, ⟨q, rfl, hq60, HQ⟩, BI⟩ := hrel
            by_cases hjn : j < n
            · obtain ⟨bL, oL, rfl, hbL, c0, c1', c2⟩ := (HX2.out.below BI.out).at_ hjn
              have hjl : j < l.length := by rw [LX.out]; exact hjn
              obtain ⟨⟨o1, r1, z1⟩, hz⟩ : ∃ x, dth l j = x := ⟨_, rfl⟩
              rw [hz] at c0 c1' c2
              simp only at c0 c1' c2
              have HW := Lib.hid (who_def l j hz)
              have hlo : -1 ≤ z1 := by have := who_low HOK.out hjl; rw [HW.out] at this; exact this
              have ba := (Below.refl wi.heap.size wi).alloc (Nat.le_refl _) (.cells #[.bool o1, .bool r1, .int .i64 z1] 34)
              have ka := Bk.new wi 34 #[.bool o1, .bool r1, .int .i64 z1]
              have bv := below3 BI.out ba
              obtain ⟨gj, hg⟩ : ∃ g, wi.heap.size = g := ⟨_, rfl⟩
              obtain ⟨V, hV⟩ : ∃ V, wi.alloc (.cells #[.bool o1, .bool r1, .int .i64 z1] 34) = V := ⟨_, rfl⟩
              rw [hV] at ka bv
              rw [hg] at ka
              have HV := Lib.hid hV
              have HG := Lib.hid hg
              have KA := Lib.hid ka
              have BV := Lib.hid bv
              have hql : q ≤ j := by
                rw [HQ.out]
                exact waitL_few l j
              clear hV hg ka bv ba hz
              go_upto_region 23 with fail
              rw [HV.out]
              try rw [HG.out]
              clear HV HG c0 c1' c2 hbL BI
              have a2 : _ = some (Value.int .i64 z1) := KA.out.cell 2
              have la := KA.out.lt
              by_cases h0 : 0 ≤ z1
              · have t1 : (z1 != -1) = true := by simp; omega
                have HQ2 : Hid (q + 1 = (waitL (l.take (j + 1))).length) := Lib.hid (by rw [waitL_yes hjl (by rw [HW.out]; exact h0), List.length_append, ← HQ.out]; rfl)
                clear h0 hlo
                go_wp2_with fail
                go_roundw
                case rel => exact ⟨j + 1, by omega, by go_num, ⟨q + 1, by go_num, by omega, HQ2⟩, BV⟩
                case measure => simp [intOf]; omega
              · have t1 : (z1 != -1) = false := by simp; omega
                have HQ2 : Hid (q = (waitL (l.take (j + 1))).length) := Lib.hid (by rw [waitL_no hjl (by rw [HW.out]; exact h0), ← HQ.out])
                clear h0 hlo
                go_wp2_with fail
                go_roundw
                case rel => exact ⟨j + 1, by omega, by go_num, ⟨q, rfl, by omega, HQ2⟩, BV⟩
                case measure => simp [intOf]; omega
            · have hjn' : j = n := by omega
              have hqm : q = k := by rw [HQ.out, hjn', ← LX.out, List.take_length, HWS.out, HM.out]
              have tq : ((q : Int) == (k : Int)) = true := by simp; omega
              have BF := Lib.hid (below3 BC.out BI.out)
              have HJ := Lib.hid hjn'
              clear hqm BI hjn'
              go_wp2_with fail
              go_ret
              exact ⟨rfl, BF.out⟩
    · rw [if_neg hok]
      rintro e w1 ⟨A1, c1, rfl, o1, b1, -⟩
      have HC := Lib.hid (if_neg hok ▸ pcheck_any A n c l _ (HX.out.below b1))
      have B1 := Lib.hid (below3 BB.out b1)
      clear o1 b1 hok
      go_wp2_with fail
      refine HC.out.mono ?_
      rintro e w2 ⟨rfl, b2⟩
      have B2 := Lib.hid (below3 B1.out b2)
      clear b2
      go_wp2_with fail
      go_ret
      exact ⟨rfl, B2.out⟩

end Go.Proofs.Ytndbaoiabmldgaa

/-
  The contract of the document's Read of layer 4.
-/
import Derived.Test.YtcbgmhbmdklbfaaRead
import Derived.Deep.RegionHeld3
import Derived.Deep.AppendLies
namespace Go.Proofs.Ytcbgmhbmdklbfaa
open Go.RowKit

theorem OwnP.mono {E : TypeId} {w : World} {base base' : Nat} {A : Option Addr} {c : Nat} {p : List I3} (h : OwnP E w base A c p) (hb : base' ≤ base) : OwnP E w base' A c p := ⟨h.1, h.2.1, h.2.2.mono hb⟩

/-- The relations of the loops. -/
def R1Rel (bs : List Int) (v : Nat) (w : World) (x u t : Value) (wr : World) : Prop :=
  ∃ (i a : Nat) (A1 : Option Addr) (m c1 : Nat) (hs : List Hd), i ≤ v ∧ RInv bs i a ∧ x = .int .i64 a ∧ t = .int .i64 i ∧ u = .slice A1 m c1 ∧ (progsOf (bs.drop 1) i).length = m ∧
    OwnT 25 42 wr w.heap.size A1 c1 hs (progsOf (bs.drop 1) i) ∧ Below w.heap.size w wr
def R2Rel (bs : List Int) (a v : Nat) (w : World) (u t : Value) (wr : World) : Prop :=
  ∃ (j : Nat) (A1 : Option Addr) (c1 : Nat), j ≤ v ∧ t = .int .i64 j ∧ u = .slice A1 j c1 ∧ OwnP 42 wr w.heap.size A1 c1 (insAt bs (a + 1) j) ∧ Below w.heap.size w wr

set_option maxHeartbeats 2000000 in
theorem rread_none (A : Option Addr) (c : Nat) (w : World) : Calls Try.prog 25 #[.slice A 0 c] w (ReadAns [] w) := by
  have HRA : Hid (readA [] = none) := Lib.hid (readA_no fun l _ e => by unfold txtL at e; cases e)
  go_enter Try.func25, Try.ntmps25
  go_wp2
  go_ret2
  exact .inr ⟨HRA.out, rfl, Below.refl _ _⟩

set_option maxRecDepth 100000 in
set_option maxHeartbeats 6000000 in
theorem rread_some (b o : Nat) (n c : Nat) (bs : List Int) (w : World) (h : Octs w (some ⟨b, o, none⟩) n bs) (h0 : 0 < n) (hb : b < w.heap.size) (hc : ∀ j, j < n → w.cell? ⟨b, o + j, none⟩ = some (.int .u8 (nth bs j))) (hn : n ≤ 3000) :
    Calls Try.prog 25 #[.slice (some ⟨b, o, none⟩) n c] w (ReadAns bs w) := by
  obtain ⟨v, hv0, hv1⟩ := hdV_nat h.2.2.1
  have HOC := Lib.hid h.2.2.1
  have HL := Lib.hid h.1
  have HV := Lib.hid hv0
  have HC := Lib.hid hc
  have c0 : w.cell? ⟨b, o, none⟩ = some (.int .u8 (v : Int)) := by have := hc 0 h0; rw [Nat.add_zero] at this; rw [this, ← hv0]; rfl
  have hn0 : ((n : Int) == 0) = false := by simp; omega
  clear h hc hv0
  go_enter Try.func25, Try.ntmps25
  go_wp2
  go_loopw [4, 5, 16] (fun x u t wr => R1Rel bs v w x u t wr) (fun _ _ t _ => v - (intOf t).toNat)
  case atStart => exact ⟨0, 1, none, 0, 0, [], Nat.zero_le _, rinv_zero (by rw [HL.out]; exact h0), rfl, rfl, rfl, rfl, OwnT.nil_ _ _ _ _, Below.refl _ _⟩
  case round =>
    rename World => wo
    obtain ⟨i, a, A1, m, c1, hs, hi, hinv, rfl, rfl, rfl, hm, hown, hbe⟩ := hrel
    have HINV := Lib.hid hinv
    have HM := Lib.hid hm
    have HO := Lib.hid hown
    have HB := Lib.hid hbe
    have ha : a ≤ n := by have := hinv.1; rw [HL.out] at this; exact this
    obtain rfl : i = m := by rw [← hm, progsOf_len]
    clear hinv hm hown hbe
    by_cases hlt : i < v
    · by_cases hae : n ≤ a
      · have HRA : Hid (readA bs = none) := Lib.hid (rinv_fail HINV.out (by rw [HV.out]; omega) (.inl (by rw [HL.out]; exact hae)))
        go_wp2
        go_ret2
        exact .inr ⟨HRA.out, rfl, HB.out⟩
      · have g0 := (HB.out.cell (p := ⟨b, o + a, none⟩) hb).trans (HC.out a (by omega))
        obtain ⟨v2, hv2, hv3⟩ : ∃ v2 : Nat, nth bs a = (v2 : Int) ∧ v2 ≤ 255 := by
          have := nth_oct HOC.out a
          unfold Oct at this
          exact ⟨(nth bs a).toNat, by omega, by omega⟩
        rw [hv2] at g0
        have HV2 := Lib.hid hv2
        clear hv2
        by_cases hfi : n < a + 1 + 4 * v2
        · have HRA : Hid (readA bs = none) := Lib.hid (rinv_fail HINV.out (by rw [HV.out]; omega) (.inr (by rw [HL.out, HV2.out]; omega)))
          go_wp2
          go_ret2
          exact .inr ⟨HRA.out, rfl, HB.out⟩
        · go_wp2
          go_loopw [6, 41] (fun u t wr => R2Rel bs a v2 wo u t wr) (fun _ t _ => v2 - (intOf t).toNat)
          case atStart => exact ⟨0, none, 0, Nat.zero_le _, rfl, rfl, OwnP.nil_ _ _ _, Below.refl _ _⟩
          case round =>
            rename World => wx
            obtain ⟨j, A2, c2, hj, rfl, rfl, hown, hbe⟩ := hrel
            have HP := Lib.hid hown
            have HX := Lib.hid hbe
            clear hown hbe
            by_cases hlt2 : j < v2
            · have HROW : Hid (wx.ownsRow wo.heap.size 42 3 (.slice A2 j c2) j (cellsP (insAt bs (a + 1) j))) := Lib.hid (by have := HP.out.2.2; rw [insAt_len] at this; exact this)
              have HFI := Lib.hid HP.out.2.1
              have hbx : b < wx.heap.size := Nat.lt_of_lt_of_le hb (Nat.le_trans HB.out.size HX.out.size)
              have hwx : wo.heap.size ≤ wx.heap.size := HX.out.size
              have hag : (Value.slice A2 j c2).ownBlock ≠ some b := fun e => by
                have h1 := (HROW.out.lt b e).1
                have h2 := HB.out.size
                omega
              have HCX : Hid (∀ k, k < n → wx.cell? ⟨b, o + k, none⟩ = some (.int .u8 (nth bs k))) := Lib.hid (fun k hk => (HX.out.cell (p := ⟨b, o + k, none⟩) (Nat.lt_of_lt_of_le hb HB.out.size)).trans ((HB.out.cell (p := ⟨b, o + k, none⟩) hb).trans (HC.out k hk)))
              have HS : Hid (insAt bs (a + 1) (j + 1) = insAt bs (a + 1) j ++ [(nth bs (a + 1 + 4 * j), 256 * nth bs (a + 1 + 4 * j + 1) + nth bs (a + 1 + 4 * j + 2), nth bs (a + 1 + 4 * j + 3))]) := Lib.hid (insAt_succ bs (a + 1) j)
              have hen : a + 1 + 4 * j + 3 < n := by omega
              go_wp2
              have he : (a : Int) + 1 + 4 * (j : Int) = ((a + 1 + 4 * j : Nat) : Int) := by omega
              rw [he]
              clear he
              generalize a + 1 + 4 * j = e at HS hen ⊢
              have g1 := HCX.out e (by omega)
              have g2 := HCX.out (e + 1) (by omega)
              have g3 := HCX.out (e + 2) (by omega)
              have g4 := HCX.out (e + 3) (by omega)
              have b1 := nth_oct HOC.out e
              have b2 := nth_oct HOC.out (e + 1)
              have b3 := nth_oct HOC.out (e + 2)
              have b4 := nth_oct HOC.out (e + 3)
              unfold Oct at b1 b2 b3 b4
              generalize nth bs e = z1 at HS g1 b1
              generalize nth bs (e + 1) = z2 at HS g2 b2
              generalize nth bs (e + 2) = z3 at HS g3 b3
              generalize nth bs (e + 3) = z4 at HS g4 b4
              have k0 : (0 : Int) ≤ (e : Int) := Int.natCast_nonneg _
              have k1 : (e : Int) < (n : Int) := by omega
              have k2 : (0 : Int) ≤ (e : Int) + 1 := by omega
              have k3 : (e : Int) + 1 < (n : Int) := by omega
              have k4 : (0 : Int) ≤ (e : Int) + 2 := by omega
              have k5 : (e : Int) + 2 < (n : Int) := by omega
              have k6 : (0 : Int) ≤ (e : Int) + 3 := by omega
              have k7 : (e : Int) + 3 < (n : Int) := by omega
              have q1 : ((e : Int) + 1).toNat = e + 1 := by omega
              have q2 : ((e : Int) + 2).toNat = e + 2 := by omega
              have q3 : ((e : Int) + 3).toNat = e + 3 := by omega
              have r1 : IntKind.i64.wrap ((e : Int) + 1) = (e : Int) + 1 := by rw [IntKind.wrap_i64]; omega
              have r2 : IntKind.i64.wrap ((e : Int) + 2) = (e : Int) + 2 := by rw [IntKind.wrap_i64]; omega
              have r3 : IntKind.i64.wrap ((e : Int) + 3) = (e : Int) + 3 := by rw [IntKind.wrap_i64]; omega
              have r4 : IntKind.i64.wrap z1 = z1 := by rw [IntKind.wrap_i64]; omega
              have r5 : IntKind.i64.wrap z2 = z2 := by rw [IntKind.wrap_i64]; omega
              have r6 : IntKind.i64.wrap z3 = z3 := by rw [IntKind.wrap_i64]; omega
              have r7 : IntKind.i64.wrap z4 = z4 := by rw [IntKind.wrap_i64]; omega
              have r8 : IntKind.i64.wrap (256 * z2) = 256 * z2 := by rw [IntKind.wrap_i64]; omega
              have r9 : IntKind.i64.wrap (256 * z2 + z3) = 256 * z2 + z3 := by rw [IntKind.wrap_i64]; omega
              have HFX : Hid (FitI (z1, 256 * z2 + z3, z4)) := Lib.hid (by simp only [FitI, Fit]; omega)
              clear b1 b2 b3 b4
              have hj1 : j + 1 ≤ 255 := by omega
              clear hfi hen
              obtain ⟨i0, hi, hz0, hz1, hz2⟩ := info_parts Try.instrInfo
              have HI := Lib.hid hi
              have HZ0 := Lib.hid hz0
              have HZ1 := Lib.hid hz1
              have HZ2 := Lib.hid hz2
              clear hi hz0 hz1 hz2
              go_region_held3 (fun w' => w'.cell? ⟨b, o + e, none⟩ = some (.int .u8 z1) ∧ w'.cell? ⟨b, o + (e + 1), none⟩ = some (.int .u8 z2) ∧ w'.cell? ⟨b, o + (e + 2), none⟩ = some (.int .u8 z3) ∧ w'.cell? ⟨b, o + (e + 3), none⟩ = some (.int .u8 z4))
                (first
                  | go_keep
                  | (go_split_ands
                     refine ⟨?_, ?_, ?_, ?_⟩
                     · (rw [hgrow.cell_far _ (by simp; omega) (Ne.symm hag)]; assumption)
                     · (rw [hgrow.cell_far _ (by simp; omega) (Ne.symm hag)]; assumption)
                     · (rw [hgrow.cell_far _ (by simp; omega) (Ne.symm hag)]; assumption)
                     · (rw [hgrow.cell_far _ (by simp; omega) (Ne.symm hag)]; assumption)))
                ((refine step_append_lies _ (by rfl) _ _ _ (by rfl) wo.heap.size 42 i0 _ 3 24 Try.underlying25 HI.out HZ0.out HZ1.out HZ2.out rfl (by omega) (.slice A2 j c2) j (cellsP (insAt bs (a + 1) j)) (by rfl) ((HROW.out.alloc _).drew) ⟨wx.heap.size, 0, none⟩ 1 1 [.int .i64 z1, .int .i64 (256 * z2 + z3), .int .i64 z4] (by rfl) (by rfl) (World.news_of_block (cs := #[.int .i64 z1, .int .i64 (256 * z2 + z3), .int .i64 z4]) (t := 42) (fr := (0, 0)) (heap_alloc_new wx _)) (by simp [Value.oneCell']) (by omega) (by unfold maxLen; omega) (by omega) (by simp; omega) (wx.heap.size + 1) (by simp) ?_; intro gg cap w1 hown1 hgrow hat hlt))
              have HOWN := Lib.hid hown1
              have HG := Lib.hid hgrow
              clear hown1 hgrow hat hlt g1 g2 g3 g4
              go_wp2
              go_roundw
              case rel =>
                refine ⟨j + 1, some ⟨gg, 0, none⟩, cap, by omega, by go_num, rfl, ?_, ?_⟩
                · rw [HS.out]
                  refine ⟨by rw [List.length_append, insAt_len]; simp; omega, fun y hy => (List.mem_append.1 hy).elim (HFI.out y) (fun h => by rw [List.mem_singleton.1 h]; exact HFX.out), ?_⟩
                  rw [List.length_append, insAt_len, cellsP_app]
                  simpa [cellsP, cells3] using HOWN.out
                · exact ((HX.out.alloc hwx _).drew).grown HG.out (by simp; omega) (fun k hk => (HROW.out.lt k hk).1)
              case measure => simp [intOf]; omega
            · obtain rfl : j = v2 := by omega
              have HROW : Hid (wx.ownsRow w.heap.size 25 1 (.slice A1 i c1) i (hs.map hv)) := Lib.hid (by have := (HO.out.below HX.out).2.2; rw [HM.out] at this; exact this)
              have HBB := Lib.hid (HX.out.alloc HX.out.size (.cells #[.slice A2 j c2] 25))
              have HSS := Lib.hid (HB.out.trans (HBB.out.mono HB.out.size))
              have g0x := (HX.out.cell (p := ⟨b, o + a, none⟩) (Nat.lt_of_lt_of_le hb HB.out.size)).trans g0
              obtain ⟨i0, hi, hz0, hz1, hz2⟩ := info_parts Try.rowInfo
              have HI := Lib.hid hi
              have HZ0 := Lib.hid hz0
              have HZ1 := Lib.hid hz1
              have HZ2 := Lib.hid hz2
              clear hi hz0 hz1 hz2
              obtain ⟨hstep, hpr⟩ := rinv_step HOC.out HINV.out HV2.out (by rw [HL.out]; omega) (by rw [HL.out]; omega)
              have HSTEP := Lib.hid hstep
              have HPR := Lib.hid hpr
              clear hstep hpr
              have HNEW : Hid (∀ q u, [Value.slice A2 j c2][q]? = some u → (wx.alloc (.cells #[.slice A2 j c2] 25)).cell? ((⟨wx.heap.size, 0, none⟩ : Addr).add q) = some u) := Lib.hid (fun q u hu => by
                rw [Addr.add_lit, Nat.zero_add, (Bk.new wx 25 #[.slice A2 j c2]).cell q]
                simpa using hu)
              go_wp2_with (at_builtin; refine wpList_append_own _ rfl _ _ 22 rfl w.heap.size 25 i0 _ 1 24 Try.underlying22 HI.out HZ0.out HZ1.out HZ2.out rfl (by decide) _ _ _ rfl (HROW.out.alloc _) ⟨wx.heap.size, 0, none⟩ 1 1 [.slice A2 j c2] rfl rfl HNEW.out (by simp [Value.oneCell']) (by unfold maxLen; omega) (by omega) HSS.out.size ?_; intro v' w2 hown' hgrow _; obtain ⟨g', cap', rfl⟩ := ownsRow_succ hown'; have HG := Lib.hid hgrow; have HW := Lib.hid hown'; clear hown' hgrow)
              go_roundw
              case rel =>
                have hlen : j = (insAt bs (a + 1) j).length := by rw [insAt_len]
                have hpush := HO.out.push (x := (A2, j, c2)) (p := insAt bs (a + 1) j) (by decide) HBB.out hlen ((HP.out.mono HB.out.size).below (below1 wx _)) (by rw [HM.out]; exact HG.out) (A' := some ⟨g', 0, none⟩) (c' := cap') (by rw [HM.out]; exact HW.out)
                refine ⟨i + 1, a + 1 + 4 * j, some ⟨g', 0, none⟩, i + 1, cap', hs ++ [(A2, j, c2)], by omega, HSTEP.out, by first | go_num | (congr 1; omega), by go_num, rfl, progsOf_len _ _, ?_, ?_⟩
                · rw [HPR.out]
                  exact hpush
                · exact HSS.out.grown HG.out HSS.out.size (fun k hk => (HROW.out.lt k hk).1)
              case measure => simp [intOf]; omega
    · obtain rfl : i = v := by omega
      have HIN : Hid (RInv bs (hdV bs).toNat a) := Lib.hid (by rw [HV.out, Int.toNat_natCast]; exact HINV.out)
      have HVI : Hid ((hdV bs).toNat = i) := Lib.hid (by rw [HV.out, Int.toNat_natCast])
      have HPG := Lib.hid (HO.out.prgs (by rw [HM.out]; omega))
      rw [HM.out] at HPG
      by_cases hae : a = n
      · subst hae
        by_cases hok : okL (progsOf (bs.drop 1) i)
        · have HOK := Lib.hid hok
          have HRA := Lib.hid (rinv_good HOC.out (by have := HIN.out; rw [← HL.out] at this; exact this) (by rw [HVI.out]; exact hok))
          rw [HVI.out] at HRA
          clear hok
          go_wp2_with (go_at_call 19; refine (rcheckAll_any A1 i c1 _ _ HPG.out).mono ?_; rintro e w3 ⟨rfl, hb3⟩; rw [errL_ok HOK.out]; have HB3 := Lib.hid hb3; clear hb3)
          go_ret2
          exact .inl ⟨_, A1, c1, HRA.out, by rw [HM.out]; rfl, by rw [HM.out]; exact HPG.out.below HB3.out, below3 HB.out HB3.out⟩
        · have HNO := Lib.hid hok
          have HRA := Lib.hid (rinv_bad (bs := bs) (by rw [HVI.out]; exact hok))
          clear hok
          go_wp2_with (go_at_call 19; refine (rcheckAll_any A1 i c1 _ _ HPG.out).mono ?_; rintro e w3 ⟨rfl, hb3⟩; rw [errL_no HNO.out]; have HB3 := Lib.hid hb3; clear hb3)
          go_ret2
          exact .inr ⟨HRA.out, rfl, below3 HB.out HB3.out⟩
      · have HRA := Lib.hid (rinv_end HIN.out (by rw [HL.out]; exact hae))
        go_wp2
        go_ret2
        exact .inr ⟨HRA.out, rfl, HB.out⟩

theorem rread_any (A : Option Addr) (n c : Nat) (bs : List Int) (w : World) (h : Octs w A n bs) (hn : n ≤ 3000) :
    Calls Try.prog 25 #[.slice A n c] w (ReadAns bs w) := by
  rcases Nat.eq_zero_or_pos n with h0 | h0
  · subst h0
    obtain rfl : bs = [] := List.eq_nil_of_length_eq_zero h.1
    exact rread_none A c w
  · obtain ⟨b, o, rfl, hb, hc⟩ := h.2.2.2 h0
    exact rread_some b o n c bs w h h0 hb hc hn

end Go.Proofs.Ytcbgmhbmdklbfaa

/-
  The contract of the document's Of: the chains that stand for lists.
-/
import Derived.Test.YtiheeehegjfmgaaOfM
namespace Go.Proofs.Ytiheeehegjfmgaa
open Go.RowKit

/-- Chains are handed back that read as three lists. -/
def RetC (next head tail : List Int) (w : World) (e : Ending) (w' : World) : Prop :=
  ∃ A a B b D d, e = .returned (.agg #[.slice A next.length a, .slice B head.length b, .slice D tail.length d]) ∧ QC w' w.heap.size A a B b D d next head tail ∧ Below w.heap.size w w'

theorem fitI (x : Int) (h0 : -1000000 ≤ x) (h1 : x ≤ 1000000) : Fit x := by unfold Fit; omega
theorem take_snoc (xs : List Int) (i : Nat) (h : i < xs.length) : xs.take i ++ [nth xs i] = xs.take (i + 1) := by
  rw [List.take_succ_eq_append_getElem h, nth_get h]

theorem rep_hdK {next head tail : List Int} {qs : List (List Int)} (r : Rep next head tail qs) {i : Nat} (hi : i < qs.length) (k : Nat) : Fit (hdK (qth qs i) k) := by
  have := r.few
  unfold hdK
  split
  · rename_i h; have := r.rng i k hi h; exact fitI _ (by omega) (by omega)
  · exact fitI _ (by omega) (by omega)
theorem rep_last {next head tail : List Int} {qs : List (List Int)} (r : Rep next head tail qs) {i : Nat} (hi : i < qs.length) : Fit (lastO (qth qs i)) := by
  have := r.few
  unfold lastO
  split
  · exact fitI _ (by omega) (by omega)
  · rename_i h; have := r.rng i _ hi (show (qth qs i).length - 1 < _ by omega); exact fitI _ (by omega) (by omega)

theorem ints1s (w : World) (p : Addr) (v : Value) (E : TypeId) {x : Int} (hx : Fit x) : Ints ((w.setCell p v).alloc (.cells #[.int .i64 x] E)) (some ⟨w.heap.size, 0, none⟩) 1 [x] := by
  have h := ints1 (w.setCell p v) E hx
  rw [show (w.setCell p v).heap.size = w.heap.size by simp] at h
  exact h

/-- The relations of the loops. -/
def OfRel0 (w : World) (n : Nat) (t : Value) (wr : World) : Prop :=
  ∃ (j : Nat) (A : Option Addr) (a : Nat), t = .int .i64 j ∧ j ≤ n ∧ OfS w wr A a none 0 none 0 (List.replicate j (-2)) [] []
def OfRel1 (w : World) (next head tail : List Int) (qs : List (List Int)) (t : Value) (wr : World) : Prop :=
  ∃ (i : Nat) (A B D : Option Addr) (a b d : Nat) (cur : List Int), t = .int .i64 i ∧ i ≤ qs.length ∧ OfS w wr A a B b D d cur (head.take i) (tail.take i) ∧ OfM next qs i (qth qs i).length cur
def OfRel2 (w : World) (next : List Int) (qs : List (List Int)) (i : Nat) (A : Option Addr) (a : Nat) (B : Option Addr) (b : Nat) (D : Option Addr) (d : Nat) (hd tl : List Int) (s8 s10 : Value) (wr : World) : Prop :=
  ∃ (k : Nat) (cur : List Int), s8 = .int .i64 (hdK (qth qs i) k) ∧ s10 = .int .i64 ((k : Int) - 1) ∧ k ≤ (qth qs i).length ∧ OfS w wr A a B b D d cur hd tl ∧ OfM next qs i k cur

set_option maxRecDepth 100000 in
set_option maxHeartbeats 4000000 in
theorem rof_any (H : Option Addr) (m C base : Nat) (hs : List (Option Addr × Nat)) (qs : List (List Int)) (next head tail : List Int) (n : Nat) (w : World) (hn : next.length = n) (hm : qs.length = m) (r : Rep next head tail qs) (hq : OwnQs 3 22 w base H C hs qs) :
    Calls Try.prog 36 #[.int .i64 n, .slice H m C] w (RetC next head tail w) := by
  have HQ := Lib.hid hq
  have HN := Lib.hid hn
  have HM := Lib.hid hm
  have HR := Lib.hid r
  have hn1 : n ≤ 1024 := by rw [← hn]; exact r.few
  have hm1 : m ≤ 256 := by rw [← hm]; exact r.l2
  have S0 := Lib.hid (ofs_start w)
  clear hq hn hm r
  go_enter Try.func36, Try.ntmps36
  go_wp2
  go_loopw [13] (fun t wr => OfRel0 w n t wr) (fun t _ => n - (intOf t).toNat)
  case atStart => exact ⟨0, none, 0, rfl, Nat.zero_le _, S0.out⟩
  case round =>
    obtain ⟨j, A, a, rfl, hj, hS⟩ := hrel
    have S := Lib.hid hS
    have c0 := hS.box.e0
    have f0 := hS.box.frozen 0
    simp at c0
    clear hS
    rename World => wo
    by_cases hlt : j < n
    · have S1 := Lib.hid (S.out.call ((Below.refl wo.heap.size wo).alloc (Nat.le_refl _) (.cells #[.int .i64 (-2)] 3)))
      have hrl : (List.replicate j (-2 : Int)).length = j := by simp
      have HRL := Lib.hid hrl
      clear hrl
      go_wp2_with (at_builtin; refine wpList_append_que _ rfl _ _ 22 rfl 3 Try.underlying22 Try.intInfo (w.heap.size + 2) A a (List.replicate j (-2)) j HRL.out.symm rfl S1.out.x (some ⟨wo.heap.size, 0, none⟩) 1 1 [-2] rfl (ints1 wo 3 (fitI (-2) (by omega) (by omega))) (by rw [HRL.out]; omega) (by have := S1.out.box.lt; omega) ?_; intro A' a' w5 hq5 hg5 hf5; have S5 := Lib.hid (S1.out.app0 hq5 hg5 hf5); have e5 : (List.replicate j (-2 : Int) ++ [-2]).length = j + 1 := (by simp); have er : List.replicate j (-2 : Int) ++ [-2] = List.replicate (j + 1) (-2) := (by rw [List.replicate_succ']); have g0 := S5.out.1.frozen 0; have g1 := S5.out.1.e0)
      go_roundw
      case rel => exact ⟨j + 1, A', a', by go_num, by omega, by have := S5.out.2; rwa [e5, er] at this⟩
      case measure => simp [intOf]; omega
    · obtain rfl : n = j := by omega
      have M0 := Lib.hid (ofm_start next qs n HN.out.symm)
      clear c0 f0
      go_wp2
      clear S0
      go_loopw [23] (fun t wr => OfRel1 w next head tail qs t wr) (fun t _ => m - (intOf t).toNat)
      case atStart => exact ⟨0, A, none, none, a, 0, 0, _, rfl, Nat.zero_le _, S.out, M0.out⟩
      case round =>
        rename World => wi
        obtain ⟨i, A, B, D, a, b, d, cur, rfl, hi, hS, hM⟩ := hrel
        have S := Lib.hid hS
        have M := Lib.hid hM
        rw [HM.out] at hi
        clear hS hM
        by_cases hlt : i < m
        · have hiq : i < qs.length := by rw [HM.out]; exact hlt
          obtain ⟨gh, rfl, -, hghw⟩ := HQ.out.form (by omega)
          have ck := (S.out.below.cell (p := ⟨gh, i, none⟩) hghw).trans (HQ.out.at_ hiq).1
          have hio := Lib.hid ((HQ.out.own i hiq).ints)
          obtain ⟨z, hz⟩ : ∃ z, (qth qs i).length = z := ⟨_, rfl⟩
          have LZ := Lib.hid hz
          rw [hz] at ck hio
          have HI : Hid (Ints w (qa hs i).1 z (qth qs i)) := hio
          generalize (qa hs i).1 = L at ck HI
          generalize (qa hs i).2 = cl at ck
          have hz8 : z * 8 ≤ 140737488351232 := by rw [← hz]; exact (HQ.out.own i hiq).1
          have MZ : Hid (OfM next qs i z cur) := Lib.hid (hz ▸ M.out)
          clear hio hz
          have hlast : hdK (qth qs i) z = -1 := by rw [← LZ.out]; exact hdK_last _
          go_wp2
          clear ck
          go_loopw [8, 10] (fun s8 s10 wr => OfRel2 w next qs i A a B b D d (head.take i) (tail.take i) s8 s10 wr) (fun _ s10 _ => ((intOf s10) + 1).toNat)
          case atStart => exact ⟨z, cur, by rw [hlast], rfl, by rw [LZ.out]; exact Nat.le_refl _, S.out, MZ.out⟩
          case round =>
            rename World => wn
            obtain ⟨k, cur2, rfl, rfl, hk, hS2, hM2⟩ := hrel
            have S2 := Lib.hid hS2
            have M2 := Lib.hid hM2
            rw [LZ.out] at hk
            clear hS2 hM2
            rcases Nat.eq_zero_or_pos k with rfl | hkp
            · have HH0 : Hid (hdK (qth qs i) 0 = nth head i) := Lib.hid (by rw [hdK_zero, HR.out.hd i hiq])
              have HT0 : Hid (lastO (qth qs i) = nth tail i) := Lib.hid (HR.out.tl i hiq).symm
              have hf0 := rep_hdK HR.out hiq 0
              have hf1 := rep_last HR.out hiq
              obtain ⟨h0, hh0⟩ : ∃ x, hdK (qth qs i) 0 = x := ⟨_, rfl⟩
              obtain ⟨t0, ht0⟩ : ∃ x, lastO (qth qs i) = x := ⟨_, rfl⟩
              rw [hh0] at HH0 hf0 ⊢
              rw [ht0] at HT0 hf1
              have HF0 := Lib.hid hf0
              have HF1 := Lib.hid hf1
              have HLH : Hid ((head.take i).length = i) := Lib.hid (by rw [List.length_take, HR.out.lh]; omega)
              have HLT : Hid ((tail.take i).length = i) := Lib.hid (by rw [List.length_take, HR.out.lt]; omega)
              have HTH : Hid (head.take i ++ [h0] = head.take (i + 1)) := Lib.hid (by rw [HH0.out]; exact take_snoc _ _ (by rw [HR.out.lh]; exact hiq))
              have HTT : Hid (tail.take i ++ [t0] = tail.take (i + 1)) := Lib.hid (by rw [HT0.out]; exact take_snoc _ _ (by rw [HR.out.lt]; exact hiq))
              have MN := Lib.hid M2.out.next_
              have S3 := Lib.hid (S2.out.call ((Below.refl wn.heap.size wn).alloc (Nat.le_refl _) (.cells #[.int .i64 h0] 3)))
              have c1 := S2.out.box.e1
              rw [HLH.out] at c1
              clear hf0 hf1 hh0
              rcases Nat.eq_zero_or_pos z with hz0 | hzp
              · have ht1 : t0 = -1 := by rw [← ht0]; exact if_pos (by rw [LZ.out]; exact hz0)
                clear ht0
                subst ht1 hz0
                go_wp2_with first
                | (at_builtin; refine wpList_append_que _ rfl _ _ 22 rfl 3 Try.underlying22 Try.intInfo (w.heap.size + 2) B b (head.take i) i HLH.out.symm rfl S3.out.h (some ⟨wn.heap.size, 0, none⟩) 1 1 [h0] rfl (ints1 wn 3 HF0.out) (by rw [HLH.out]; omega) (by have := S3.out.box.lt; omega) ?_; intro B' b' w5 hq5 hg5 hf5; have S5 := S3.out.app1 hq5 hg5 hf5; have e5 : (head.take i ++ [h0]).length = i + 1 := (by rw [List.length_append, HLH.out]; rfl); rw [e5] at S5 ⊢; have g0 := S5.1.frozen 1; have g1 := S5.1.e1; have g4 := S5.1.e2; rw [HLT.out] at g4; have HX5 := Lib.hid (S5.2.call ((Below.refl _ _).alloc (Nat.le_refl _) (.cells #[.int .i64 (-1)] 3))); clear S5 hq5 hg5 hf5)
                | (at_builtin; refine wpList_append_que _ rfl _ _ 22 rfl 3 Try.underlying22 Try.intInfo (w.heap.size + 2) D d (tail.take i) i HLT.out.symm rfl HX5.out.t (some ⟨w5.heap.size, 0, none⟩) 1 1 [(-1)] rfl (ints1s w5 _ _ 3 HF1.out) (by rw [HLT.out]; omega) (by have := HX5.out.box.lt; omega) ?_; intro D' d' w7 hq7 hg7 hf7; have S7 := HX5.out.app2 hq7 hg7 hf7; have e7 : (tail.take i ++ [(-1)]).length = i + 1 := (by rw [List.length_append, HLT.out]; rfl); rw [e7] at S7 ⊢; have g2 := S7.1.frozen 2; have g3 := S7.1.e2; have H7 := Lib.hid S7.2; clear S7 hq7 hg7 hf7)
                go_roundw
                case rel => exact ⟨i + 1, A, B', D', a, b', d', cur2, by go_num, by omega, HTH.out ▸ HTT.out ▸ H7.out, MN.out⟩
                case measure => simp [intOf]; omega
              · obtain ⟨bL, oL, rfl, hbL, hcL⟩ := HI.out.2.2.2 hzp
                have hzw : IntKind.i64.wrap ((z : Int) - 1) = ((z - 1 : Nat) : Int) := by rw [IntKind.wrap_i64]; omega
                have hzc : ((z : Int) - 1) = ((z - 1 : Nat) : Int) := by omega
                have clz := (S2.out.below.cell (p := ⟨bL, oL + (z - 1), none⟩) hbL).trans (hcL (z - 1) (by omega))
                have hlz : nth (qth qs i) (z - 1) = t0 := by rw [← ht0, lastO_at (by rw [LZ.out]; exact hzp), LZ.out]
                rw [hlz] at clz
                clear hbL hcL ht0 hlz
                go_wp2_with first
                | (at_builtin; refine wpList_append_que _ rfl _ _ 22 rfl 3 Try.underlying22 Try.intInfo (w.heap.size + 2) B b (head.take i) i HLH.out.symm rfl S3.out.h (some ⟨wn.heap.size, 0, none⟩) 1 1 [h0] rfl (ints1 wn 3 HF0.out) (by rw [HLH.out]; omega) (by have := S3.out.box.lt; omega) ?_; intro B' b' w5 hq5 hg5 hf5; have S5 := S3.out.app1 hq5 hg5 hf5; have e5 : (head.take i ++ [h0]).length = i + 1 := (by rw [List.length_append, HLH.out]; rfl); rw [e5] at S5 ⊢; have g0 := S5.1.frozen 1; have g1 := S5.1.e1; have g4 := S5.1.e2; rw [HLT.out] at g4; have HX5 := Lib.hid (S5.2.call ((Below.refl _ _).alloc (Nat.le_refl _) (.cells #[.int .i64 t0] 3))); clear S5 hq5 hg5 hf5)
                | (at_builtin; refine wpList_append_que _ rfl _ _ 22 rfl 3 Try.underlying22 Try.intInfo (w.heap.size + 2) D d (tail.take i) i HLT.out.symm rfl HX5.out.t (some ⟨w5.heap.size, 0, none⟩) 1 1 [t0] rfl (ints1s w5 _ _ 3 HF1.out) (by rw [HLT.out]; omega) (by have := HX5.out.box.lt; omega) ?_; intro D' d' w7 hq7 hg7 hf7; have S7 := HX5.out.app2 hq7 hg7 hf7; have e7 : (tail.take i ++ [t0]).length = i + 1 := (by rw [List.length_append, HLT.out]; rfl); rw [e7] at S7 ⊢; have g2 := S7.1.frozen 2; have g3 := S7.1.e2; have H7 := Lib.hid S7.2; clear S7 hq7 hg7 hf7)
                go_roundw
                case rel => exact ⟨i + 1, A, B', D', a, b', d', cur2, by go_num, by omega, HTH.out ▸ HTT.out ▸ H7.out, MN.out⟩
                case measure => simp [intOf]; omega
            · obtain ⟨p, rfl⟩ : ∃ p, k = p + 1 := ⟨k - 1, by omega⟩
              obtain ⟨bL, oL, rfl, hbL, hcL⟩ := HI.out.2.2.2 (by omega)
              have cl := (S2.out.below.cell (p := ⟨bL, oL + p, none⟩) hbL).trans (hcL p (by omega))
              obtain ⟨r1, r2⟩ := HR.out.rng i p hiq (by rw [LZ.out]; omega)
              have MS := Lib.hid (M2.out.step HR.out hiq (by rw [LZ.out]; omega))
              obtain ⟨v, hv⟩ : ∃ v, nth (qth qs i) p = v := ⟨_, rfl⟩
              obtain ⟨y, hy⟩ : ∃ y, hdK (qth qs i) (p + 1) = y := ⟨_, rfl⟩
              have hyf : Fit y := hy ▸ rep_hdK HR.out hiq _
              have HDK : Hid (hdK (qth qs i) p = v) := Lib.hid (by unfold hdK; rw [if_pos (by rw [LZ.out]; omega), hv])
              rw [hv] at cl r1 r2 MS
              rw [hy] at MS ⊢
              have hcl := M2.out.len
              have hcn : cur2.length = n := by rw [hcl, HN.out]
              have hvn : v < (n : Int) := by rw [← HN.out]; exact r2
              have c5 := S2.out.box.e0
              rw [hcn] at c5
              obtain ⟨gA, oA, rfl, -, -, -, -⟩ := S2.out.x.form (by omega)
              have fA := (S2.out.x.at_ v.toNat (by rw [hcn]; omega)).2
              have cA := (S2.out.x.at_ v.toNat (by rw [hcn]; omega)).1
              have HCN := Lib.hid hcn
              have HYF := Lib.hid hyf
              have hpw : IntKind.i64.wrap ((p : Int) - 1) = (p : Int) - 1 := by rw [IntKind.wrap_i64]; omega
              have hgA := (S2.out.x.block (n := 0) (d := 0) gA rfl).1
              have hne : ¬ gA = bL := by have : bL < w.heap.size := hbL; omega
              have hne2 : ¬ bL = gA := fun e => hne e.symm
              have hpw2 : IntKind.i64.wrap (((p + 1 : Nat) : Int) - 1 - 1) = (p : Int) - 1 := by rw [IntKind.wrap_i64]; omega
              have SL := S2.out.link v.toNat hyf (by omega)
              have SF := Lib.hid (SL.call (Below.refl _ _).drew)
              have hpz : p < z := by omega
              clear hbL hcL hv hy hcl hcn r2 hyf SL hgA
              go_wp2
              go_region
              go_wp2
              go_roundw
              case rel => exact ⟨p, _, by rw [HDK.out], by go_num, by rw [LZ.out]; omega, SF.out, MS.out⟩
              case measure => simp [intOf]
        · obtain rfl : i = m := by omega
          have HCE : Hid (cur = next) := Lib.hid (M.out.done HR.out HM.out.symm)
          have HTH : Hid (head.take i = head) := Lib.hid (List.take_of_length_le (by rw [HR.out.lh, HM.out]; exact Nat.le_refl _))
          have HTT : Hid (tail.take i = tail) := Lib.hid (List.take_of_length_le (by rw [HR.out.lt, HM.out]; exact Nat.le_refl _))
          have hS := S.out
          rw [HCE.out, HTH.out, HTT.out] at hS
          have c0 := hS.box.e0
          have c1 := hS.box.e1
          have c2 := hS.box.e2
          have r0 := hS.r4.e0
          have r1 := hS.r4.e1
          have r2 := hS.r4.e2
          have f0 := hS.r4.frozen 0
          have f1 := hS.r4.frozen 1
          have f2 := hS.r4.frozen 2
          have H3 : Hid (Below w.heap.size w (((wi.setCell ⟨w.heap.size, 0, none⟩ (.slice A next.length a)).setCell ⟨w.heap.size, 1, none⟩ (.slice B head.length b)).setCell ⟨w.heap.size, 2, none⟩ (.slice D tail.length d))) := Lib.hid (((hS.below.setCell (p := ⟨w.heap.size, 0, none⟩) (Nat.le_refl _) _).setCell (p := ⟨w.heap.size, 1, none⟩) (Nat.le_refl _) _).setCell (p := ⟨w.heap.size, 2, none⟩) (Nat.le_refl _) _)
          have HN : Hid (QC (((wi.setCell ⟨w.heap.size, 0, none⟩ (.slice A next.length a)).setCell ⟨w.heap.size, 1, none⟩ (.slice B head.length b)).setCell ⟨w.heap.size, 2, none⟩ (.slice D tail.length d)) w.heap.size A a B b D d next head tail) :=
            Lib.hid ((((QC.mk hS.x hS.h hS.t).far (p := ⟨w.heap.size, 0, none⟩) (by simp) _).far (p := ⟨w.heap.size, 1, none⟩) (by simp) _).far (p := ⟨w.heap.size, 2, none⟩) (by simp) _ |>.base_ (by omega))
          clear hS
          go_wp2
          exact bodyPost_ret (v := .agg #[.slice A next.length a, .slice B head.length b, .slice D tail.length d]) (by simp [results, Try.results36, go_sem, *]) rfl ⟨A, a, B, b, D, d, rfl, HN.out, H3.out⟩

end Go.Proofs.Ytiheeehegjfmgaa

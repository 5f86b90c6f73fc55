/-
  Contracts of Write of layer 4: the program's and the document's.
-/
import Derived.Test.YtcbgmhbmdklbfaaWMath
import Derived.Test.YtcbgmhbmdklbfaaPart
import Derived.Test.YtcbgmhbmdklbfaaAll
namespace Go.Proofs.Ytcbgmhbmdklbfaa
open Go.RowKit

/-- What Write answers: a text, or an error. -/
def WriteAns (l : List (List I3)) (w : World) (e : Ending) (w' : World) : Prop :=
  (okL l ∧ ∃ A c, e = .returned (.tuple #[.slice A (txtL l).length c, .int .i64 0]) ∧ OwnO 5 w' w.heap.size A c (txtL l) ∧ Below w.heap.size w w') ∨
  (¬ okL l ∧ e = .returned (.tuple #[.slice none 0 0, .int .i64 1]) ∧ Below w.heap.size w w')

/-- The relations of the loops. -/
def W1Rel (l : List (List I3)) (n : Nat) (w : World) (u t : Value) (wr : World) : Prop := ∃ k : Nat, k ≤ n ∧ t = .int .i64 k ∧ ∃ A m c, u = .slice A m c ∧ (wpre l k).length = m ∧ OwnO 5 wr w.heap.size A c (wpre l k) ∧ Below w.heap.size w wr
def W2Rel (l : List (List I3)) (k : Nat) (p : List I3) (n : Nat) (w : World) (u t : Value) (wr : World) : Prop := ∃ j : Nat, j ≤ n ∧ t = .int .i64 j ∧ ∃ A m c, u = .slice A m c ∧ (wpre2 l k p j).length = m ∧ OwnO 5 wr w.heap.size A c (wpre2 l k p j) ∧ Below w.heap.size w wr

set_option maxHeartbeats 2000000 in
theorem write_no (A : Option Addr) (n c : Nat) (l : List (List I3)) (w : World) (hp : Prgs w A n l) (h : ¬ okL l) :
    Calls Try.prog 22 #[.slice A n c] w (WriteAns l w) := by
  have HE := Lib.hid (errL_no h)
  have HO := Lib.hid h
  clear h
  go_enter Try.func22, Try.ntmps22
  go_wp2_with fail
  refine (checkAll_any A n c l w hp).mono ?_
  rintro e w1 ⟨rfl, hb1⟩
  rw [HE.out]
  have HB := Lib.hid hb1
  clear hb1
  go_wp2
  go_ret2
  exact .inr ⟨HO.out, rfl, HB.out⟩

set_option maxHeartbeats 4000000 in
theorem write_ok (A : Option Addr) (n c : Nat) (l : List (List I3)) (w : World) (hp : Prgs w A n l) (h : okL l) :
    Calls Try.prog 22 #[.slice A n c] w (WriteAns l w) := by
  have HE := Lib.hid (errL_ok h)
  have HOK := Lib.hid h
  have HP := Lib.hid hp
  have HN := Lib.hid hp.1
  have hn : n ≤ 16 := by have := h.2.1; rw [hp.1] at this; exact this
  clear hp h
  go_enter Try.func22, Try.ntmps22
  go_wp2_with fail
  refine (checkAll_any A n c l w HP.out).mono ?_
  rintro e w1 ⟨rfl, hb1⟩
  rw [HE.out]
  have HB1 := Lib.hid hb1
  have HB2 := Lib.hid (hb1.alloc hb1.size (.cells #[.int .u8 (n : Int)] 5))
  have HO2 : Hid (OwnO 5 (w1.alloc (.cells #[.int .u8 (n : Int)] 5)) w.heap.size (some ⟨w1.heap.size, 0, none⟩) 1 (wpre l 0)) := Lib.hid (by
    rw [wpre_zero, HN.out]
    exact own_octs hb1.size (by unfold Oct; omega))
  clear hb1
  go_wp2
  go_loopw [5, 21] (fun u t wr => W1Rel l n w u t wr) (fun _ t _ => n - (intOf t).toNat)
  case atStart => exact ⟨0, Nat.zero_le _, rfl, _, 1, 1, rfl, by rw [wpre_zero]; rfl, HO2.out, HB2.out⟩
  case round =>
    rename World => wo
    obtain ⟨k, hk, rfl, A1, m1, c1, rfl, hlen, hown, hb⟩ := hrel
    have HO := Lib.hid hown
    have HB := Lib.hid hb
    have HLEN := Lib.hid hlen
    have hm1 : m1 ≤ 2065 := by rw [← hlen]; exact wpre_len HOK.out k
    clear hown hb hlen
    by_cases hlt : k < n
    · have HKL : Hid (k < l.length) := Lib.hid (by rw [HN.out]; exact hlt)
      obtain ⟨b0, o0, D, r, s, rfl, hbl0, g00w, hr⟩ := HP.out.at_ hlt
      have g00 := (HB.out.cell (p := ⟨b0, o0 + k, none⟩) hbl0).trans g00w
      have HR := Lib.hid hr
      have HRL := Lib.hid hr.1
      have HOP := Lib.hid (HOK.out.2.2 k HKL.out).1
      have hr32 : r ≤ 32 := by have := HOP.out.2.1; rw [HRL.out] at this; exact this
      have HBA := Lib.hid (HB.out.alloc HB.out.size (.cells #[.int .u8 (r : Int)] 5))
      have HOA := Lib.hid (HO.out.below ((Below.refl wo.heap.size wo).alloc (Nat.le_refl _) (.cells #[.int .u8 (r : Int)] 5)))
      have HS1 : Hid (Octs (wo.alloc (.cells #[.int .u8 (r : Int)] 5)) (some ⟨wo.heap.size, 0, none⟩) 1 [(r : Int)]) := Lib.hid (octs_of (zs := [(r : Int)]) (Bk.atg rfl 5 #[.int .u8 (r : Int)]) rfl (by omega) (by simp [Oct]; omega))
      clear hr g00w
      go_wp2_with (first
        | (at_builtin; refine wpList_append_octs _ rfl _ _ 35 rfl 5 Try.underlying35 Try.octetInfo w.heap.size A1 c1 (wpre l k) m1 HLEN.out.symm rfl HOA.out (some ⟨wo.heap.size, 0, none⟩) 1 1 [(r : Int)] rfl HS1.out (by rw [HLEN.out]; omega) HBA.out.size ?_
           intro A2 c2 w2 hown2 hg2
           have HB3 := Lib.hid (HBA.out.grown hg2 HBA.out.size HOA.out.block)
           have HO3 : Hid (OwnO 5 w2 w.heap.size A2 c2 (wpre2 l k (pth l k) 0)) := Lib.hid (by rw [← wpre2_zero, HRL.out]; exact hown2)
           clear hown2 hg2))
      go_loopw [5, 33] (fun u t w' => W2Rel l k (pth l k) r w u t w') (fun _ t _ => r - (intOf t).toNat)
      case atStart => exact ⟨0, Nat.zero_le _, rfl, A2, _, c2, rfl, by rw [← wpre2_zero]; simp, HO3.out, HB3.out⟩
      case round =>
        rename World => wx
        obtain ⟨j, hj, rfl, A4, m4, c4, rfl, hlen, hown, hb⟩ := hrel
        have HO4 := Lib.hid hown
        have HB4 := Lib.hid hb
        have HLEN4 := Lib.hid hlen
        have hm4 : m4 ≤ 2200 := by rw [← hlen]; exact wpre2_len HOK.out k HOP.out j
        clear hown hb hlen
        by_cases hlt2 : j < r
        · obtain ⟨b1, o1, rfl, hbl, g0, g1, g2⟩ := (HR.out.below HB4.out).at_ hlt2
          have HMAY : Hid (mayB (jO (pth l k) j, jA (pth l k) j, jB (pth l k) j) = true) := Lib.hid (HOP.out.2.2 j (by rw [HRL.out]; exact hlt2))
          have HBX := Lib.hid (HB4.out.alloc HB4.out.size (.cells #[.int .i64 (jO (pth l k) j), .int .i64 (jA (pth l k) j), .int .i64 (jB (pth l k) j)] 42))
          have HOX := Lib.hid (HO4.out.below ((Below.refl wx.heap.size wx).alloc (Nat.le_refl _) (.cells #[.int .i64 (jO (pth l k) j), .int .i64 (jA (pth l k) j), .int .i64 (jB (pth l k) j)] 42)))
          go_wp2_with fail
          refine (part_any _ _ _ _ HMAY.out).mono ?_
          rintro e w5 ⟨A5, c5, rfl, hown5, hb5⟩
          have HO5 := Lib.hid hown5
          have HOY := Lib.hid (HOX.out.below hb5)
          have HB5 := Lib.hid (below3 HBX.out hb5)
          clear hown5 hb5
          go_wp2_with (first
            | (at_builtin; refine wpList_append_octs _ rfl _ _ 35 rfl 5 Try.underlying35 Try.octetInfo w.heap.size A4 c4 (wpre2 l k (pth l k) j) m4 HLEN4.out.symm rfl HOY.out A5 4 c5 (txtI (jO (pth l k) j, jA (pth l k) j, jB (pth l k) j)) rfl HO5.out.octs (by rw [HLEN4.out]; omega) HB5.out.size ?_
               intro A6 c6 w6 hown6 hg6
               have HB6 := Lib.hid (HB5.out.grown hg6 HB5.out.size HOY.out.block)
               have HO6 : Hid (OwnO 5 w6 w.heap.size A6 c6 (wpre2 l k (pth l k) (j + 1))) := Lib.hid (by rw [← wpre2_succ l k (by rw [HRL.out]; exact hlt2)]; exact hown6)
               have HL6 : Hid ((wpre2 l k (pth l k) (j + 1)).length = (wpre2 l k (pth l k) j ++ txtI (jO (pth l k) j, jA (pth l k) j, jB (pth l k) j)).length) := Lib.hid (by rw [← wpre2_succ l k (by rw [HRL.out]; exact hlt2)]; rfl)
               clear hown6 hg6))
          go_roundw
          case rel => exact ⟨j + 1, by omega, by go_num, A6, _, c6, rfl, by rw [HL6.out]; simp, HO6.out, HB6.out⟩
          case measure => simp [intOf]; omega
        · obtain rfl : j = r := by omega
          have HEQ : Hid (wpre2 l k (pth l k) j = wpre l (k + 1)) := Lib.hid (by rw [← HRL.out]; exact wpre2_all l HKL.out)
          go_wp2
          go_roundw
          case rel => exact ⟨k + 1, by omega, by go_num, A4, m4, c4, rfl, by rw [← HEQ.out]; exact HLEN4.out, by rw [← HEQ.out]; exact HO4.out, HB4.out⟩
          case measure => simp [intOf]; omega
    · obtain rfl : k = n := by omega
      have HEQ : Hid (wpre l k = txtL l) := Lib.hid (by rw [← HN.out]; exact wpre_all l)
      have HLL : Hid ((txtL l).length = m1) := Lib.hid (by rw [← HEQ.out]; exact HLEN.out)
      go_wp2
      go_ret2
      exact .inl ⟨HOK.out, A1, c1, by rw [HLL.out]; rfl, by rw [← HEQ.out]; exact HO.out, HB.out⟩

theorem write_any (A : Option Addr) (n c : Nat) (l : List (List I3)) (w : World) (hp : Prgs w A n l) :
    Calls Try.prog 22 #[.slice A n c] w (WriteAns l w) := by
  by_cases h : okL l
  · exact write_ok A n c l w hp h
  · exact write_no A n c l w hp h

set_option maxHeartbeats 2000000 in
theorem rwrite_no (A : Option Addr) (n c : Nat) (l : List (List I3)) (w : World) (hp : Prgs w A n l) (h : ¬ okL l) :
    Calls Try.prog 23 #[.slice A n c] w (WriteAns l w) := by
  have HE := Lib.hid (errL_no h)
  have HO := Lib.hid h
  clear h
  go_enter Try.func23, Try.ntmps23
  go_wp2_with fail
  refine (rcheckAll_any A n c l w hp).mono ?_
  rintro e w1 ⟨rfl, hb1⟩
  rw [HE.out]
  have HB := Lib.hid hb1
  clear hb1
  go_wp2
  go_ret2
  exact .inr ⟨HO.out, rfl, HB.out⟩

set_option maxHeartbeats 4000000 in
theorem rwrite_ok (A : Option Addr) (n c : Nat) (l : List (List I3)) (w : World) (hp : Prgs w A n l) (h : okL l) :
    Calls Try.prog 23 #[.slice A n c] w (WriteAns l w) := by
  have HE := Lib.hid (errL_ok h)
  have HOK := Lib.hid h
  have HP := Lib.hid hp
  have HN := Lib.hid hp.1
  have hn : n ≤ 16 := by have := h.2.1; rw [hp.1] at this; exact this
  clear hp h
  go_enter Try.func23, Try.ntmps23
  go_wp2_with fail
  refine (rcheckAll_any A n c l w HP.out).mono ?_
  rintro e w1 ⟨rfl, hb1⟩
  rw [HE.out]
  have HB1 := Lib.hid hb1
  have HB2 := Lib.hid (hb1.alloc hb1.size (.cells #[.int .u8 (n : Int)] 5))
  have HO2 : Hid (OwnO 5 (w1.alloc (.cells #[.int .u8 (n : Int)] 5)) w.heap.size (some ⟨w1.heap.size, 0, none⟩) 1 (wpre l 0)) := Lib.hid (by
    rw [wpre_zero, HN.out]
    exact own_octs hb1.size (by unfold Oct; omega))
  clear hb1
  go_wp2
  go_loopw [4, 18] (fun u t wr => W1Rel l n w u t wr) (fun _ t _ => n - (intOf t).toNat)
  case atStart => exact ⟨0, Nat.zero_le _, rfl, _, 1, 1, rfl, by rw [wpre_zero]; rfl, HO2.out, HB2.out⟩
  case round =>
    rename World => wo
    obtain ⟨k, hk, rfl, A1, m1, c1, rfl, hlen, hown, hb⟩ := hrel
    have HO := Lib.hid hown
    have HB := Lib.hid hb
    have HLEN := Lib.hid hlen
    have hm1 : m1 ≤ 2065 := by rw [← hlen]; exact wpre_len HOK.out k
    clear hown hb hlen
    by_cases hlt : k < n
    · have HKL : Hid (k < l.length) := Lib.hid (by rw [HN.out]; exact hlt)
      obtain ⟨b0, o0, D, r, s, rfl, hbl0, g00w, hr⟩ := HP.out.at_ hlt
      have g00 := (HB.out.cell (p := ⟨b0, o0 + k, none⟩) hbl0).trans g00w
      have HR := Lib.hid hr
      have HRL := Lib.hid hr.1
      have HOP := Lib.hid (HOK.out.2.2 k HKL.out).1
      have hr32 : r ≤ 32 := by have := HOP.out.2.1; rw [HRL.out] at this; exact this
      have HBA := Lib.hid (HB.out.alloc HB.out.size (.cells #[.int .u8 (r : Int)] 5))
      have HOA := Lib.hid (HO.out.below ((Below.refl wo.heap.size wo).alloc (Nat.le_refl _) (.cells #[.int .u8 (r : Int)] 5)))
      have HS1 : Hid (Octs (wo.alloc (.cells #[.int .u8 (r : Int)] 5)) (some ⟨wo.heap.size, 0, none⟩) 1 [(r : Int)]) := Lib.hid (octs_of (zs := [(r : Int)]) (Bk.atg rfl 5 #[.int .u8 (r : Int)]) rfl (by omega) (by simp [Oct]; omega))
      clear hr g00w
      go_wp2_with (first
        | (at_builtin; refine wpList_append_octs _ rfl _ _ 35 rfl 5 Try.underlying35 Try.octetInfo w.heap.size A1 c1 (wpre l k) m1 HLEN.out.symm rfl HOA.out (some ⟨wo.heap.size, 0, none⟩) 1 1 [(r : Int)] rfl HS1.out (by rw [HLEN.out]; omega) HBA.out.size ?_
           intro A2 c2 w2 hown2 hg2
           have HB3 := Lib.hid (HBA.out.grown hg2 HBA.out.size HOA.out.block)
           have HO3 : Hid (OwnO 5 w2 w.heap.size A2 c2 (wpre2 l k (pth l k) 0)) := Lib.hid (by rw [← wpre2_zero, HRL.out]; exact hown2)
           clear hown2 hg2))
      go_loopw [4, 30] (fun u t w' => W2Rel l k (pth l k) r w u t w') (fun _ t _ => r - (intOf t).toNat)
      case atStart => exact ⟨0, Nat.zero_le _, rfl, A2, _, c2, rfl, by rw [← wpre2_zero]; simp, HO3.out, HB3.out⟩
      case round =>
        rename World => wx
        obtain ⟨j, hj, rfl, A4, m4, c4, rfl, hlen, hown, hb⟩ := hrel
        have HO4 := Lib.hid hown
        have HB4 := Lib.hid hb
        have HLEN4 := Lib.hid hlen
        have hm4 : m4 ≤ 2200 := by rw [← hlen]; exact wpre2_len HOK.out k HOP.out j
        clear hown hb hlen
        by_cases hlt2 : j < r
        · obtain ⟨b1, o1, rfl, hbl, g0, g1, g2⟩ := (HR.out.below HB4.out).at_ hlt2
          have hmay : mayB (jO (pth l k) j, jA (pth l k) j, jB (pth l k) j) = true := HOP.out.2.2 j (by rw [HRL.out]; exact hlt2)
          have hbd := may_bound hmay
          obtain ⟨u1, u2, u3, u4, u5, u6, _⟩ := hbd
          simp only [] at u1 u2 u3 u4 u5 u6
          have HOC := Lib.hid (txtI_oct hmay)
          clear hmay
          have HBX := Lib.hid ((HB4.out.alloc HB4.out.size (.cells #[.int .i64 (jO (pth l k) j), .int .i64 (jA (pth l k) j), .int .i64 (jB (pth l k) j)] 42)).alloc (by have := HB4.out.size; simp; omega) (.cells #[.int .u8 (jO (pth l k) j), .int .u8 (jA (pth l k) j / 256), .int .u8 (jA (pth l k) j % 256), .int .u8 (jB (pth l k) j)] 5))
          have HOX := Lib.hid (HO4.out.below (((Below.refl wx.heap.size wx).alloc (Nat.le_refl _) (.cells #[.int .i64 (jO (pth l k) j), .int .i64 (jA (pth l k) j), .int .i64 (jB (pth l k) j)] 42)).alloc (by simp) (.cells #[.int .u8 (jO (pth l k) j), .int .u8 (jA (pth l k) j / 256), .int .u8 (jA (pth l k) j % 256), .int .u8 (jB (pth l k) j)] 5)))
          have HS5 : Hid (Octs ((wx.alloc (.cells #[.int .i64 (jO (pth l k) j), .int .i64 (jA (pth l k) j), .int .i64 (jB (pth l k) j)] 42)).alloc (.cells #[.int .u8 (jO (pth l k) j), .int .u8 (jA (pth l k) j / 256), .int .u8 (jA (pth l k) j % 256), .int .u8 (jB (pth l k) j)] 5)) (some ⟨wx.heap.size + 1, 0, none⟩) 4 (txtI (jO (pth l k) j, jA (pth l k) j, jB (pth l k) j))) :=
            Lib.hid (octs_of (zs := txtI (jO (pth l k) j, jA (pth l k) j, jB (pth l k) j)) (Bk.atg (by simp) 5 _) rfl (by omega) HOC.out)
          go_wp2_with (first
            | (at_builtin; refine wpList_append_octs _ rfl _ _ 35 rfl 5 Try.underlying35 Try.octetInfo w.heap.size A4 c4 (wpre2 l k (pth l k) j) m4 HLEN4.out.symm rfl HOX.out (some ⟨wx.heap.size + 1, 0, none⟩) 4 4 (txtI (jO (pth l k) j, jA (pth l k) j, jB (pth l k) j)) rfl HS5.out (by rw [HLEN4.out]; omega) HBX.out.size ?_
               intro A6 c6 w6 hown6 hg6
               have HB6 := Lib.hid (HBX.out.grown hg6 HBX.out.size HOX.out.block)
               have HO6 : Hid (OwnO 5 w6 w.heap.size A6 c6 (wpre2 l k (pth l k) (j + 1))) := Lib.hid (by rw [← wpre2_succ l k (by rw [HRL.out]; exact hlt2)]; exact hown6)
               have HL6 : Hid ((wpre2 l k (pth l k) (j + 1)).length = (wpre2 l k (pth l k) j ++ txtI (jO (pth l k) j, jA (pth l k) j, jB (pth l k) j)).length) := Lib.hid (by rw [← wpre2_succ l k (by rw [HRL.out]; exact hlt2)]; rfl)
               clear hown6 hg6))
          go_roundw
          case rel => exact ⟨j + 1, by omega, by go_num, A6, _, c6, rfl, by rw [HL6.out]; simp, HO6.out, HB6.out⟩
          case measure => simp [intOf]; omega
        · obtain rfl : j = r := by omega
          have HEQ : Hid (wpre2 l k (pth l k) j = wpre l (k + 1)) := Lib.hid (by rw [← HRL.out]; exact wpre2_all l HKL.out)
          go_wp2
          go_roundw
          case rel => exact ⟨k + 1, by omega, by go_num, A4, m4, c4, rfl, by rw [← HEQ.out]; exact HLEN4.out, by rw [← HEQ.out]; exact HO4.out, HB4.out⟩
          case measure => simp [intOf]; omega
    · obtain rfl : k = n := by omega
      have HEQ : Hid (wpre l k = txtL l) := Lib.hid (by rw [← HN.out]; exact wpre_all l)
      have HLL : Hid ((txtL l).length = m1) := Lib.hid (by rw [← HEQ.out]; exact HLEN.out)
      go_wp2
      go_ret2
      exact .inl ⟨HOK.out, A1, c1, by rw [HLL.out]; rfl, by rw [← HEQ.out]; exact HO.out, HB.out⟩

theorem rwrite_any (A : Option Addr) (n c : Nat) (l : List (List I3)) (w : World) (hp : Prgs w A n l) :
    Calls Try.prog 23 #[.slice A n c] w (WriteAns l w) := by
  by_cases h : okL l
  · exact rwrite_ok A n c l w hp h
  · exact rwrite_no A n c l w hp h

end Go.Proofs.Ytcbgmhbmdklbfaa

/-
  The law JoinsRing: the walk.
-/
import Derived.Test.YtkffmohgnbnhkaaJv
namespace Go.Proofs.Ytkffmohgnbnhkaa
open Go.RowKit

set_option maxRecDepth 100000 in
set_option maxHeartbeats 8000000 in
theorem lring_any (A : Option Addr) (n c : Nat) (l : List Tm) (a b : Int) (w : World) (hx : Tms w A n c l) (fa : Fit a) (fb : Fit b) :
    Calls Try.prog 7 #[.slice A n c, .int .i64 a, .int .i64 b] w (TrueAns w) := by
  have HX := Lib.hid hx
  have LX := Lib.hid hx.1
  have HFA := Lib.hid fa
  have HFB := Lib.hid fb
  have hnc := hx.2.1
  clear hx fa fb
  by_cases hn : 200 < n
  · have t0 : decide ((200 : Int) < (n : Int)) = true := by simp; omega
    go_enter Try.func7, Try.ntmps7
    go_wp2_with fail
    refine (live_any _).mono ?_
    rintro e w1 ⟨rfl, b⟩
    have B1 := Lib.hid b
    clear b
    go_wp2_with fail
    go_ret
    exact ⟨rfl, B1.out⟩
  · have t0 : decide ((200 : Int) < (n : Int)) = false := by simp; omega
    by_cases hok : okJ l
    · have HC := Lib.hid (checkR_yes hok)
      by_cases ha : a < 0
      · have ta : decide (a < 0) = true := decide_eq_true ha
        clear hok ha
        go_enter Try.func7, Try.ntmps7
        go_wp2_with fail
        refine (live_any _).mono ?_
        rintro e w1 ⟨rfl, b⟩
        have B1 := Lib.hid b
        clear b
        go_wp2_with fail
        refine (pcheck_any A n c l _ (HX.out.below B1.out)).mono ?_
        rw [HC.out]
        rintro e w2 ⟨rfl, b⟩
        have B2 := Lib.hid (below3 B1.out b)
        clear b 
        go_wp2_with fail
        go_ret
        exact ⟨rfl, B2.out⟩
      · have ta : decide (a < 0) = false := decide_eq_false ha
        by_cases hb : b < 0
        · have tb : decide (b < 0) = true := decide_eq_true hb
          clear hok ha hb
          go_enter Try.func7, Try.ntmps7
          go_wp2_with fail
          refine (live_any _).mono ?_
          rintro e w1 ⟨rfl, b⟩
          have B1 := Lib.hid b
          clear b
          go_wp2_with fail
          refine (pcheck_any A n c l _ (HX.out.below B1.out)).mono ?_
          rw [HC.out]
          rintro e w2 ⟨rfl, b⟩
          have B2 := Lib.hid (below3 B1.out b)
          clear b 
          go_wp2_with fail
          go_ret
          exact ⟨rfl, B2.out⟩
        · have tb : decide (b < 0) = false := decide_eq_false hb
          have HRA : Hid (forR l a = (0, wayJ l a)) := Lib.hid (if_pos hok)
          have HRB : Hid (forR l b = (0, wayJ l b)) := Lib.hid (if_pos hok)
          have HOK := Lib.hid hok
          obtain ⟨ys, hys⟩ : ∃ ys, wayJ l a = ys := ⟨_, rfl⟩
          obtain ⟨zs, hzs⟩ : ∃ zs, wayJ l b = zs := ⟨_, rfl⟩
          rw [hys] at HRA
          rw [hzs] at HRB
          have hw : waitR l a b = (if 0 ≤ onL l b then (6, []) else if a = b ∨ b ∈ ys then (9, []) else (0, l ++ [(a, b)])) := by
            unfold waitR
            rw [if_pos ⟨hok, by omega, by omega⟩, hys]
            by_cases h1 : 0 ≤ onL l b
            · rw [if_pos h1, if_pos h1]
            · rw [if_neg h1, if_neg h1]
              by_cases h2 : a = b ∨ b ∈ ys
              · rw [if_pos h2, if_pos h2]
              · have := LX.out
                rw [if_neg h2, if_neg h2, if_neg (by omega)]
          have hz := ways_len hok b
          rw [hzs] at hz
          obtain ⟨ny, hny⟩ : ∃ m, ys.length = m := ⟨_, rfl⟩
          obtain ⟨nz, hnz⟩ : ∃ m, zs.length = m := ⟨_, rfl⟩
          rw [hnz] at hz
          have HNY := Lib.hid hny
          have HNZ := Lib.hid hnz
          have hyl : ny ≤ 256 := by rw [← hny, ← hys]; exact hok.short a
          have hzl : nz ≤ 256 := by rw [← hnz, ← hzs]; exact hok.short b
          have HQ : Hid (decide (a = b ∨ b ∈ ys.take 0) = (a == b)) := Lib.hid (by simp; rfl)
          clear ha hb hok hys hzs hny hnz
          have HW : Hid (∃ f ls, waitR l a b = (f, ls) ∧ ((0 < nz ∧ f = 6) ∨ (nz = 0 ∧ (a = b ∨ b ∈ ys) ∧ f = 9) ∨ (nz = 0 ∧ ¬ (a = b ∨ b ∈ ys) ∧ f = 0))) := Lib.hid (by
            by_cases h1 : 0 ≤ onL l b
            · exact ⟨6, [], by rw [hw, if_pos h1], .inl ⟨hz.1 h1, rfl⟩⟩
            · by_cases h2 : a = b ∨ b ∈ ys
              · exact ⟨9, [], by rw [hw, if_neg h1, if_pos h2], .inr (.inl ⟨hz.2 h1, h2, rfl⟩)⟩
              · exact ⟨0, _, by rw [hw, if_neg h1, if_neg h2], .inr (.inr ⟨hz.2 h1, h2, rfl⟩)⟩)
          clear hw hz
          obtain ⟨f, ls, hfw, hcase⟩ := HW.out
          have HFW := Lib.hid hfw
          have HCASE := Lib.hid hcase
          clear hfw hcase HW
          go_enter Try.func7, Try.ntmps7
          go_wp2_with fail
          refine (live_any _).mono ?_
          rintro e w1 ⟨rfl, b⟩
          have B1 := Lib.hid b
          clear b
          go_wp2_with fail
          refine (pcheck_any A n c l _ (HX.out.below B1.out)).mono ?_
          rw [HC.out]
          rintro e w2 ⟨rfl, b⟩
          have B2 := Lib.hid (below3 B1.out b)
          clear b 
          go_wp2_with fail
          refine (pfor_any A n c l a _ (HX.out.below B2.out) HFA.out).mono ?_
          rw [HRA.out]
          rintro e w3 ⟨A3, c3, rfl, o3, b⟩
          dsimp only at o3 ⊢
          have B3 := Lib.hid (below3 B2.out b)
          have OY := Lib.hid (o3.base B2.out.size)
          clear b o3
          rw [HNY.out]
          go_wp2_with fail
          refine (pwait_any A n c l a b _ (HX.out.below B3.out) HFA.out HFB.out).mono ?_
          rw [HFW.out]
          rintro e w4 ⟨A4, c4, rfl, o4, b⟩
          dsimp only at o4 ⊢
          have B4 := Lib.hid (below3 B3.out b)
          replace OY := Lib.hid (OY.out.below b)
          have OW := Lib.hid (o4.base B3.out.size)
          clear b o4
          go_wp2_with fail
          refine (pfor_any A n c l b _ (HX.out.below B4.out) HFB.out).mono ?_
          rw [HRB.out]
          rintro e w5 ⟨A5, c5, rfl, o5, b⟩
          dsimp only at o5 ⊢
          have B5 := Lib.hid (below3 B4.out b)
          replace OY := Lib.hid (OY.out.below b)
          have OZ := Lib.hid (o5.base B4.out.size)
          clear b o5
          rw [HNZ.out]
          have hcz := OZ.out.cap
          have hcy := OY.out.cap
          rw [HNZ.out] at hcz
          rw [HNY.out] at hcy
          go_wp2_with fail
          go_loopw [14, 63] (fun t14 t wr => ∃ (k : Nat) (m : Bool), k ≤ ny ∧ t = .int .i64 k ∧ t14 = .bool m ∧ Hid (decide (a = b ∨ b ∈ ys.take k) = m) ∧ wr = w5) (fun _ t _ => ny - (intOf t).toNat)
          case atStart => exact ⟨0, a == b, Nat.zero_le _, rfl, rfl, HQ, rfl⟩
          case round =>
            clear HQ
            rename World => wr
            obtain ⟨k, m, hk, rfl, rfl, HM, rfl⟩ := hrel
            by_cases hkn : k < ny
            · have hkl : k < ys.length := by rw [HNY.out]; exact hkn
              obtain ⟨bY, oY, rfl, hbY, cY⟩ := (OY.out.intsN HNY.out).at_ hkn
              obtain ⟨v, hv⟩ : ∃ v, nth ys k = v := ⟨_, rfl⟩
              rw [hv] at cY
              have HT : Hid (ys.take (k + 1) = ys.take k ++ [v]) := Lib.hid (by rw [← hv, nth_get hkl]; exact (List.take_append_getElem hkl).symm)
              clear hv
              cases m with
              | true =>
                have HN : Hid (decide (a = b ∨ b ∈ ys.take (k + 1)) = true) := Lib.hid (by
                  have := of_decide_eq_true HM.out
                  rw [HT.out]
                  refine decide_eq_true ?_
                  rcases this with h | h
                  · exact .inl h
                  · exact .inr (List.mem_append_left _ h))
                go_wp2_with fail
                go_roundw
                case rel => exact ⟨k + 1, true, by omega, by go_num, rfl, HN, trivial⟩
                case measure => simp [intOf]; omega
              | false =>
                have hno := of_decide_eq_false HM.out
                by_cases hvb : v = b
                · have tv : (v == b) = true := by simpa using hvb
                  have HN : Hid (decide (a = b ∨ b ∈ ys.take (k + 1)) = true) := Lib.hid (by
                    rw [HT.out]
                    exact decide_eq_true (.inr (by rw [hvb]; simp)))
                  clear hno hvb
                  go_wp2_with fail
                  go_roundw
                  case rel => exact ⟨k + 1, true, by omega, by go_num, rfl, HN, trivial⟩
                  case measure => simp [intOf]; omega
                · have tv : (v == b) = false := by simpa using hvb
                  have HN : Hid (decide (a = b ∨ b ∈ ys.take (k + 1)) = false) := Lib.hid (by
                    rw [HT.out]
                    refine decide_eq_false ?_
                    rintro (h | h)
                    · exact hno (.inl h)
                    · rcases List.mem_append.1 h with h | h
                      · exact hno (.inr h)
                      · exact hvb (List.mem_singleton.1 h).symm)
                  clear hno hvb
                  go_wp2_with fail
                  go_roundw
                  case rel => exact ⟨k + 1, false, by omega, by go_num, rfl, HN, trivial⟩
                  case measure => simp [intOf]; omega
            · obtain rfl : ny = k := by omega
              have HF : Hid (decide (a = b ∨ b ∈ ys) = m) := Lib.hid (by have := HM.out; rwa [List.take_of_length_le (Nat.le_of_eq HNY.out)] at this)
              rcases HCASE.out with ⟨hz, rfl⟩ | ⟨hz, hm, rfl⟩ | ⟨hz, hm, rfl⟩
              · have tz : decide (0 < nz) = true := decide_eq_true hz
                have tz2 : decide ((0 : Int) < (nz : Int)) = true := by simp; omega
                clear hz
                go_wp2_with fail
                go_ret
                exact ⟨rfl, B5.out⟩
              · obtain rfl : m = true := by rw [← HF.out]; exact decide_eq_true hm
                have tz : decide (0 < nz) = false := by simp; omega
                have tz2 : decide ((0 : Int) < (nz : Int)) = false := by simp; omega
                clear hz hm
                go_wp2_with fail
                go_ret
                exact ⟨rfl, B5.out⟩
              · obtain rfl : m = false := by rw [← HF.out]; exact decide_eq_false hm
                have tz : decide (0 < nz) = false := by simp; omega
                have tz2 : decide ((0 : Int) < (nz : Int)) = false := by simp; omega
                clear hz hm
                go_wp2_with fail
                go_ret
                exact ⟨rfl, B5.out⟩
    · have HC := Lib.hid (checkR_no hok)
      clear hok
      go_enter Try.func7, Try.ntmps7
      go_wp2_with fail
      refine (live_any _).mono ?_
      rintro e w1 ⟨rfl, b⟩
      have B1 := Lib.hid b
      clear b
      go_wp2_with fail
      refine (pcheck_any A n c l _ (HX.out.below B1.out)).mono ?_
      rw [HC.out]
      rintro e w2 ⟨rfl, b⟩
      have B2 := Lib.hid (below3 B1.out b)
      clear b 
      go_wp2_with fail
      go_ret
      exact ⟨rfl, B2.out⟩

end Go.Proofs.Ytkffmohgnbnhkaa

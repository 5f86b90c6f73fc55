/-
  Contracts of CheckAll and of Few of layer 4: the program's and the document's.
-/
import Derived.Test.YtpfnoohcilefhaaCheck
import Derived.Test.YtpfnoohcilefhaaFind
namespace Go.Proofs.Ytpfnoohcilefhaa
open Go.RowKit

/-- Of the first k programs each may be, and spawns what is there. -/
def okLK (l : List (List I3)) (k : Nat) : Prop := ∀ j, j < k → okP (pth l j) ∧ ∀ i, i < (pth l j).length → jO (pth l j) i = 2 → jA (pth l j) i < (l.length : Int)

/-- The relation of CheckAll's loop. -/
def AllRel (l : List (List I3)) (n : Nat) (w : World) (t : Value) (wr : World) : Prop := ∃ k : Nat, k ≤ n ∧ t = .int .i64 k ∧ okLK l k ∧ Below w.heap.size w wr

theorem errL_small {l : List (List I3)} (h : l.length < 1) : errL l = 1 := errL_no (fun h' => by have := h'.1; omega)
theorem errL_big {l : List (List I3)} (h : 16 < l.length) : errL l = 1 := errL_no (fun h' => by have := h'.2.1; omega)
theorem errL_bad {l : List (List I3)} {k : Nat} (hk : k < l.length) (h : ¬ okP (pth l k)) : errL l = 1 := errL_no (fun h' => h (h'.2.2 k hk).1)
theorem errL_wild {l : List (List I3)} {k i : Nat} (hk : k < l.length) (hi : i < (pth l k).length) (h : qWild l.length (pth l k) i = true) : errL l = 1 := errL_no (fun h' => by
  have h1 := of_decide_eq_true (show decide _ = true from h)
  have := (h'.2.2 k hk).2 i hi h1.1
  omega)
theorem okLK_next {l : List (List I3)} {k : Nat} (h : okLK l k) (h1 : okP (pth l k)) (h2 : ∀ i, i < (pth l k).length → qWild l.length (pth l k) i = false) : okLK l (k + 1) := by
  intro j hj
  rcases Nat.lt_or_ge j k with h' | h'
  · exact h j h'
  · obtain rfl : j = k := by omega
    refine ⟨h1, fun i hi h3 => ?_⟩
    have := of_decide_eq_false (show decide _ = false from h2 i hi)
    omega

set_option maxHeartbeats 1000000 in
theorem checkAll_any (A : Option Addr) (n c : Nat) (l : List (List I3)) (w : World) (hp : Prgs w A n l) :
    Calls Try.prog 48 #[.slice A n c] w (RetB (.int .i64 (errL l)) w) := by
  have HP := Lib.hid hp
  have HN := Lib.hid hp.1
  have hn := hp.2.1
  have HK := Lib.hid (Bk.new w 23 #[.slice A n c])
  have B0 := Lib.hid ((Below.refl w.heap.size w).alloc (Nat.le_refl _) (.cells #[.slice A n c] 23))
  clear hp
  by_cases h1 : n < 1
  · have HE := Lib.hid (errL_small (l := l) (by rw [HN.out]; exact h1))
    go_enter Try.func48, Try.ntmps48
    go_wp2
    go_ret
    rw [HE.out]
    exact RetB.of rfl B0.out
  · by_cases h2 : 16 < n
    · have HE := Lib.hid (errL_big (l := l) (by rw [HN.out]; exact h2))
      go_enter Try.func48, Try.ntmps48
      go_wp2
      go_ret
      rw [HE.out]
      exact RetB.of rfl B0.out
    · go_enter Try.func48, Try.ntmps48
      go_wp2
      go_loopw [16] (fun t wr => AllRel l n (w.alloc (.cells #[.slice A n c] 23)) t wr) (fun t _ => n - (intOf t).toNat)
      case atStart => exact ⟨0, Nat.zero_le _, rfl, fun j hj => absurd hj (by omega), Below.refl _ _⟩
      case round =>
        obtain ⟨k, hk, rfl, hq, hb⟩ := hrel
        have HQ := Lib.hid hq
        have HB := Lib.hid hb
        have HW := Lib.hid (below3 B0.out hb)
        clear hq hb
        by_cases hlt : k < n
        · have hkl : k < l.length := by rw [HN.out]; exact hlt
          obtain ⟨b, o, D, m, d, rfl, hbl, g0, hr⟩ := (HP.out.below HW.out).at_ hlt
          have HR := Lib.hid hr
          have HML := Lib.hid hr.1
          clear hr
          by_cases hx : okP (pth l k)
          · have HX := Lib.hid hx
            have HE := Lib.hid (errP_ok hx)
            clear hx
            go_wp2_with fail
            refine (check_any D m d _ _ HR.out).mono ?_
            rintro e w1 ⟨rfl, hb1⟩
            rw [HE.out]
            have HB1 := Lib.hid (below3 HB.out hb1)
            have HW1 := Lib.hid (below3 HW.out hb1)
            have HR1 := Lib.hid (HR.out.below hb1)
            clear hb1
            go_wp2_with fail
            refine (contains_wild w.heap.size (some ⟨b, o, none⟩) n c D m d _ _ HR1.out (HK.out.below HB1.out HK.out.lt)).mono ?_
            rintro e w2 ⟨r, rfl, hy, hn', hb2⟩
            have HB2 := Lib.hid (below3 HB1.out hb2)
            have HW2 := Lib.hid (below3 HW1.out hb2)
            have HY := Lib.hid hy
            have HN' := Lib.hid hn'
            clear hb2 hy hn'
            cases r with
            | true =>
              have HE : Hid (errL l = 1) := Lib.hid (by
                obtain ⟨i, hi, hq⟩ := HY.out rfl
                exact errL_wild hkl (by rw [HML.out]; exact hi) (by rw [HN.out]; exact hq))
              go_wp2
              go_ret
              rw [HE.out]
              exact RetB.of rfl HW2.out
            | false =>
              have HQ' := Lib.hid (okLK_next HQ.out HX.out (fun i hi => by rw [HN.out]; exact HN'.out rfl i (by rw [HML.out] at hi; exact hi)))
              go_wp2
              go_roundw
              case rel => exact ⟨k + 1, by omega, by go_num, HQ'.out, HB2.out⟩
              case measure => simp [intOf]; omega
          · have HE := Lib.hid (errP_no hx)
            have HE2 := Lib.hid (errL_bad hkl hx)
            clear hx
            go_wp2_with fail
            refine (check_any D m d _ _ HR.out).mono ?_
            rintro e w1 ⟨rfl, hb1⟩
            rw [HE.out]
            have HW1 := Lib.hid (below3 HW.out hb1)
            clear hb1
            go_wp2
            go_ret
            rw [HE2.out]
            exact RetB.of rfl HW1.out
        · have HE := Lib.hid (errL_ok (l := l) ⟨by rw [HN.out]; omega, by rw [HN.out]; omega, fun j hj => HQ.out j (by rw [HN.out] at hj; omega)⟩)
          go_wp2
          go_ret
          rw [HE.out]
          exact RetB.of rfl HW.out

/-- The relation of the inner loop of the document's CheckAll. -/
def WildRel (q : Nat → Bool) (n : Nat) (w : World) (t : Value) (wr : World) : Prop := ∃ k : Nat, k ≤ n ∧ t = .int .i64 k ∧ (∀ j, j < k → q j = false) ∧ Below w.heap.size w wr

set_option maxHeartbeats 1000000 in
theorem rcheckAll_any (A : Option Addr) (n c : Nat) (l : List (List I3)) (w : World) (hp : Prgs w A n l) :
    Calls Try.prog 31 #[.slice A n c] w (RetB (.int .i64 (errL l)) w) := by
  have HP := Lib.hid hp
  have HN := Lib.hid hp.1
  have hn := hp.2.1
  clear hp
  by_cases h1 : n < 1
  · have HE := Lib.hid (errL_small (l := l) (by rw [HN.out]; exact h1))
    go_enter Try.func31, Try.ntmps31
    go_wp2
    go_ret
    rw [HE.out]
    exact RetB.of rfl (Below.refl _ _)
  · by_cases h2 : 16 < n
    · have HE := Lib.hid (errL_big (l := l) (by rw [HN.out]; exact h2))
      go_enter Try.func31, Try.ntmps31
      go_wp2
      go_ret
      rw [HE.out]
      exact RetB.of rfl (Below.refl _ _)
    · go_enter Try.func31, Try.ntmps31
      go_wp2
      go_loopw [17] (fun t wr => AllRel l n w t wr) (fun t _ => n - (intOf t).toNat)
      case atStart => exact ⟨0, Nat.zero_le _, rfl, fun j hj => absurd hj (by omega), Below.refl _ _⟩
      case round =>
        obtain ⟨k, hk, rfl, hq, hb⟩ := hrel
        have HQ := Lib.hid hq
        have HW := Lib.hid hb
        clear hq hb
        by_cases hlt : k < n
        · have hkl : k < l.length := by rw [HN.out]; exact hlt
          obtain ⟨b, o, D, m, d, rfl, hbl, g0, hr⟩ := (HP.out.below HW.out).at_ hlt
          have HR := Lib.hid hr
          have HML := Lib.hid hr.1
          have hm := Nat.le_trans hr.2.1.1 hr.2.1.2
          clear hr
          by_cases hx : okP (pth l k)
          · have HX := Lib.hid hx
            have HE := Lib.hid (errP_ok hx)
            clear hx
            go_wp2_with fail
            refine (rcheck_any D m d _ _ HR.out).mono ?_
            rintro e w1 ⟨rfl, hb1⟩
            rw [HE.out]
            have HW1 := Lib.hid (below3 HW.out hb1)
            have HR1 := Lib.hid (HR.out.below hb1)
            clear hb1
            go_wp2
            go_loopw [26] (fun t wr => WildRel (qWild n (pth l k)) m w1 t wr) (fun t _ => m - (intOf t).toNat)
            case atStart => exact ⟨0, Nat.zero_le _, rfl, fun j hj => absurd hj (by omega), Below.refl _ _⟩
            case round =>
              obtain ⟨i, hi, rfl, hq2, hb2⟩ := hrel
              have HQ2 := Lib.hid hq2
              have HB2 := Lib.hid hb2
              have HW2 := Lib.hid (below3 HW1.out hb2)
              clear hq2 hb2
              by_cases hlt2 : i < m
              · obtain ⟨b2, o2, rfl, hbl2, f0, f1, f2⟩ := (HR1.out.below HB2.out).at_ hlt2
                have HB3 := fun X => Lib.hid (HB2.out.alloc HB2.out.size X)
                have HW3 := fun X => Lib.hid (HW2.out.alloc HW2.out.size X)
                by_cases hs : jO (pth l k) i = 2
                · have hs1 : (jO (pth l k) i == 2) = true := by simpa using hs
                  by_cases ha : (n : Int) ≤ jA (pth l k) i
                  · have HE : Hid (errL l = 1) := Lib.hid (errL_wild hkl (by rw [HML.out]; exact hlt2) (by rw [HN.out]; simp [qWild, wild, hs, ha]))
                    clear hs
                    go_wp2
                    go_ret
                    rw [HE.out]
                    exact RetB.of rfl (HW3 _).out
                  · have HQ3 : Hid (qWild n (pth l k) i = false) := Lib.hid (by simp [qWild, wild, ha])
                    clear hs
                    go_wp2
                    go_roundw
                    case rel => exact ⟨i + 1, by omega, by go_num, fun j hj => (by
                      rcases Nat.lt_or_ge j i with h | h
                      · exact HQ2.out j h
                      · obtain rfl : j = i := by omega
                        exact HQ3.out), (HB3 _).out⟩
                    case measure => simp [intOf]; omega
                · have hs1 : (jO (pth l k) i == 2) = false := by simpa using hs
                  have HQ3 : Hid (qWild n (pth l k) i = false) := Lib.hid (by simp [qWild, wild, hs])
                  clear hs
                  go_wp2
                  go_roundw
                  case rel => exact ⟨i + 1, by omega, by go_num, fun j hj => (by
                    rcases Nat.lt_or_ge j i with h | h
                    · exact HQ2.out j h
                    · obtain rfl : j = i := by omega
                      exact HQ3.out), (HB3 _).out⟩
                  case measure => simp [intOf]; omega
              · have HQ' := Lib.hid (okLK_next HQ.out HX.out (fun j hj => by rw [HN.out]; exact HQ2.out j (by rw [HML.out] at hj; omega)))
                go_wp2
                go_roundw
                case rel => exact ⟨k + 1, by omega, by go_num, HQ'.out, HW2.out⟩
                case measure => simp [intOf]; omega
          · have HE := Lib.hid (errP_no hx)
            have HE2 := Lib.hid (errL_bad hkl hx)
            clear hx
            go_wp2_with fail
            refine (rcheck_any D m d _ _ HR.out).mono ?_
            rintro e w1 ⟨rfl, hb1⟩
            rw [HE.out]
            have HW1 := Lib.hid (below3 HW.out hb1)
            clear hb1
            go_wp2
            go_ret
            rw [HE2.out]
            exact RetB.of rfl HW1.out
        · have HE := Lib.hid (errL_ok (l := l) ⟨by rw [HN.out]; omega, by rw [HN.out]; omega, fun j hj => HQ.out j (by rw [HN.out] at hj; omega)⟩)
          go_wp2
          go_ret
          rw [HE.out]
          exact RetB.of rfl HW.out

/-- The relation of Few's loop. -/
def FewRel (l : List (List I3)) (n : Nat) (t : Value) : Prop := ∃ k : Nat, k ≤ n ∧ t = .int .i64 k ∧ ∀ j, j < k → (pth l j).length ≤ 100

theorem few_any (A : Option Addr) (n c : Nat) (l : List (List I3)) (w : World) (hp : Prgs w A n l) :
    Calls Try.prog 25 #[.slice A n c] w fun e w' => e = .returned (.bool (fewB l)) ∧ w = w' := by
  have HP := Lib.hid hp
  have HN := Lib.hid hp.1
  have hn := hp.2.1
  clear hp
  go_enter Try.func25, Try.ntmps25
  go_wp2
  go_loop [7] (fun t => FewRel l n t) (fun t => n - (intOf t).toNat)
  case atStart => exact ⟨0, Nat.zero_le _, rfl, fun j hj => absurd hj (by omega)⟩
  case round =>
    obtain ⟨k, hk, rfl, hq⟩ := hrel
    have HQ := Lib.hid hq
    clear hq
    by_cases hlt : k < n
    · obtain ⟨b, o, D, m, d, rfl, hbl, g0, hr⟩ := HP.out.at_ hlt
      have HML := Lib.hid hr.1
      clear hr
      by_cases hm : 100 < m
      · have HF : Hid (false = fewB l) := Lib.hid (by
          symm
          refine decide_eq_false (fun h => ?_)
          have := h.2 k (by rw [HN.out]; exact hlt)
          rw [HML.out] at this
          omega)
        go_wp2
        go_ret
        exact ⟨ret_bool HF.out, rfl⟩
      · go_wp2
        go_round
        case rel => exact ⟨k + 1, by omega, by go_num, fun j hj => (by
          rcases Nat.lt_or_ge j k with h | h
          · exact HQ.out j h
          · obtain rfl : j = k := by omega
            rw [HML.out]; omega)⟩
        case measure => simp [intOf]; omega
    · have HF : Hid (decide ((n : Int) ≤ 100) = fewB l) := Lib.hid (by
        unfold fewB
        rw [decide_eq_decide]
        refine ⟨fun h => ⟨by rw [HN.out]; omega, fun j hj => HQ.out j (by rw [HN.out] at hj; omega)⟩, fun h => ?_⟩
        have := h.1
        rw [HN.out] at this
        omega)
      go_wp2
      go_ret
      exact ⟨ret_bool HF.out, rfl⟩

end Go.Proofs.Ytpfnoohcilefhaa

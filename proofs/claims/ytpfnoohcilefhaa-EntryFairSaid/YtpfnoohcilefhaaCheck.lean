/-
  Contracts of Check of layer 4: the program's and the document's.
-/
import Derived.Test.YtpfnoohcilefhaaMay
namespace Go.Proofs.Ytpfnoohcilefhaa
open Go.RowKit

/-- The relation of Check's loop. -/
def MayRel (p : List I3) (n : Nat) (w : World) (t : Value) (wr : World) : Prop := ∃ k : Nat, k ≤ n ∧ t = .int .i64 k ∧ (∀ j, j < k → mayB (ith p j) = true) ∧ Below w.heap.size w wr

theorem errP_small {p : List I3} (h : p.length < 1) : errP p = 1 := errP_no (fun h' => by have := h'.1; omega)
theorem errP_big {p : List I3} (h : 32 < p.length) : errP p = 1 := errP_no (fun h' => by have := h'.2.1; omega)
theorem errP_bad {p : List I3} {k : Nat} (hk : k < p.length) (h : mayB (ith p k) = false) : errP p = 1 := errP_no (fun h' => by have := h'.2.2 k hk; rw [h] at this; cases this)

set_option maxHeartbeats 1000000 in
theorem check_any (A : Option Addr) (n c : Nat) (p : List I3) (w : World) (hp : Prog w A n c p) :
    Calls Try.prog 65 #[.slice A n c] w (RetB (.int .i64 (errP p)) w) := by
  have HP := Lib.hid hp
  have HN := Lib.hid hp.1
  have hn := Nat.le_trans hp.2.1.1 hp.2.1.2
  clear hp
  by_cases h1 : n < 1
  · have HE := Lib.hid (errP_small (p := p) (by rw [HN.out]; exact h1))
    go_enter Try.func65, Try.ntmps65
    go_wp2
    go_ret
    rw [HE.out]
    exact RetB.of rfl (Below.refl _ _)
  · by_cases h2 : 32 < n
    · have HE := Lib.hid (errP_big (p := p) (by rw [HN.out]; exact h2))
      go_enter Try.func65, Try.ntmps65
      go_wp2
      go_ret
      rw [HE.out]
      exact RetB.of rfl (Below.refl _ _)
    · go_enter Try.func65, Try.ntmps65
      go_wp2
      go_loopw [15] (fun t wr => MayRel p n w t wr) (fun t _ => n - (intOf t).toNat)
      case atStart => exact ⟨0, Nat.zero_le _, rfl, fun j hj => absurd hj (by omega), Below.refl _ _⟩
      case round =>
        obtain ⟨k, hk, rfl, hq, hb⟩ := hrel
        have HQ := Lib.hid hq
        have HB := Lib.hid hb
        clear hq hb
        by_cases hlt : k < n
        · obtain ⟨b, o, rfl, hbl, g0, g1, g2⟩ := (HP.out.below HB.out).at_ hlt
          go_wp2_with fail
          refine (may_any _ _ _ _).mono ?_
          rintro e w1 ⟨rfl, hb1⟩
          have HB1 := Lib.hid (below3 (HB.out.alloc HB.out.size _) hb1)
          clear hb1
          by_cases hx : mayB (jO p k, jA p k, jB p k) = true
          · go_wp2
            go_roundw
            case rel => exact ⟨k + 1, by omega, by go_num, fun j hj => (by
              rcases Nat.lt_or_ge j k with h | h
              · exact HQ.out j h
              · obtain rfl : j = k := by omega
                exact hx), HB1.out⟩
            case measure => simp [intOf]; omega
          · replace hx : mayB (jO p k, jA p k, jB p k) = false := by simpa using hx
            have HE := Lib.hid (errP_bad (p := p) (k := k) (by rw [HN.out]; exact hlt) hx)
            go_wp2
            go_ret
            rw [HE.out]
            exact RetB.of rfl HB1.out
        · have HE := Lib.hid (errP_ok (p := p) ⟨by rw [HN.out]; omega, by rw [HN.out]; omega, fun j hj => HQ.out j (by rw [HN.out] at hj; omega)⟩)
          go_wp2
          go_ret
          rw [HE.out]
          exact RetB.of rfl HB.out

set_option maxHeartbeats 1000000 in
theorem rcheck_any (A : Option Addr) (n c : Nat) (p : List I3) (w : World) (hp : Prog w A n c p) :
    Calls Try.prog 54 #[.slice A n c] w (RetB (.int .i64 (errP p)) w) := by
  have HP := Lib.hid hp
  have HN := Lib.hid hp.1
  have hn := Nat.le_trans hp.2.1.1 hp.2.1.2
  clear hp
  by_cases h1 : n < 1
  · have HE := Lib.hid (errP_small (p := p) (by rw [HN.out]; exact h1))
    go_enter Try.func54, Try.ntmps54
    go_wp2
    go_ret
    rw [HE.out]
    exact RetB.of rfl (Below.refl _ _)
  · by_cases h2 : 32 < n
    · have HE := Lib.hid (errP_big (p := p) (by rw [HN.out]; exact h2))
      go_enter Try.func54, Try.ntmps54
      go_wp2
      go_ret
      rw [HE.out]
      exact RetB.of rfl (Below.refl _ _)
    · go_enter Try.func54, Try.ntmps54
      go_wp2
      go_loopw [15] (fun t wr => MayRel p n w t wr) (fun t _ => n - (intOf t).toNat)
      case atStart => exact ⟨0, Nat.zero_le _, rfl, fun j hj => absurd hj (by omega), Below.refl _ _⟩
      case round =>
        obtain ⟨k, hk, rfl, hq, hb⟩ := hrel
        have HQ := Lib.hid hq
        have HB := Lib.hid hb
        clear hq hb
        by_cases hlt : k < n
        · obtain ⟨b, o, rfl, hbl, g0, g1, g2⟩ := (HP.out.below HB.out).at_ hlt
          go_wp2_with fail
          refine (rmay_any _ _ _ _).mono ?_
          rintro e w1 ⟨rfl, hb1⟩
          have HB1 := Lib.hid (below3 (HB.out.alloc HB.out.size _) hb1)
          clear hb1
          by_cases hx : mayB (jO p k, jA p k, jB p k) = true
          · go_wp2
            go_roundw
            case rel => exact ⟨k + 1, by omega, by go_num, fun j hj => (by
              rcases Nat.lt_or_ge j k with h | h
              · exact HQ.out j h
              · obtain rfl : j = k := by omega
                exact hx), HB1.out⟩
            case measure => simp [intOf]; omega
          · replace hx : mayB (jO p k, jA p k, jB p k) = false := by simpa using hx
            have HE := Lib.hid (errP_bad (p := p) (k := k) (by rw [HN.out]; exact hlt) hx)
            go_wp2
            go_ret
            rw [HE.out]
            exact RetB.of rfl HB1.out
        · have HE := Lib.hid (errP_ok (p := p) ⟨by rw [HN.out]; omega, by rw [HN.out]; omega, fun j hj => HQ.out j (by rw [HN.out] at hj; omega)⟩)
          go_wp2
          go_ret
          rw [HE.out]
          exact RetB.of rfl HB.out

end Go.Proofs.Ytpfnoohcilefhaa

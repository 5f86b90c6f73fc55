/-
  Contracts that hold chains against one another: slices.Equal at numbers, the program's Same and the document's.
-/
import Derived.Test.YtiheeehegjfmgaaCp
import Derived.Deep.QuietTactic
import Derived.BigQuiet
namespace Go.Proofs.Ytiheeehegjfmgaa
open Go.RowKit

/-- Are all parts the same? -/
def sameC (next next' head head' tail tail' : List Int) : Bool := sameB next next' && (sameB head head' && sameB tail tail')
theorem sameC_refl (next head tail : List Int) : sameC next next head head tail tail = true := by simp [sameC, sameB_refl]

set_option maxHeartbeats 400000 in
theorem equalI_any (A A' : Option Addr) (n c n' c' : Nat) (xs ys : List Int) (w : World) (hx : Ints w A n xs) (hy : Ints w A' n' ys) :
    Calls Try.prog 44 #[.slice A n c, .slice A' n' c'] w (RetB (.bool (sameB xs ys)) w) := by
  obtain ⟨lx, bx, _, cx⟩ := hx
  obtain ⟨ly, by_, _, cy⟩ := hy
  by_cases hn : n = n'
  · subst hn
    have CX := Lib.hid cx
    have CY := Lib.hid cy
    have LX := Lib.hid lx
    have LY := Lib.hid ly
    clear cx cy lx ly
    go_enter Try.func44, Try.ntmps44
    go_wp2
    go_loopw [13] (fun t wr => ∃ k : Nat, k ≤ n ∧ t = .int .i64 k ∧ (∃ d, wr = w.drewN d) ∧ Hid (∀ j, j < k → nth xs j = nth ys j)) (fun t _ => n - (intOf t).toNat)
    case atStart => exact ⟨0, Nat.zero_le _, rfl, ⟨0, rfl⟩, fun j hj => by omega⟩
    case round =>
      obtain ⟨k, hk, rfl, ⟨d, rfl⟩, hall⟩ := hrel
      by_cases hlt : k < n
      · obtain ⟨b, o, rfl, hb, hc⟩ := CX.out (by omega)
        obtain ⟨b', o', rfl, hb', hc'⟩ := CY.out (by omega)
        have c1 := hc k hlt
        have c2 := hc' k hlt
        clear hc hc'
        by_cases he : nth xs k = nth ys k
        · have hs : (nth xs k != nth ys k) = false := by rw [he]; simp
          go_wp2
          go_quiet (fail)
          go_wp2
          go_roundw
          case rel => exact ⟨k + 1, by omega, by go_num, ⟨_, rfl⟩, fun j hj => by rcases Nat.lt_or_ge j k with h | h; exact hall j h; rwa [show j = k from by omega]⟩
          case measure => simp [intOf]; omega
        · have hs : (nth xs k != nth ys k) = true := by simpa using he
          have HF := Lib.hid (sameB_at k he)
          clear he
          go_wp2
          go_quiet (fail)
          go_wp2
          go_ret
          exact RetB.of (ret_bool HF.out.symm) (below_drewN (below_drewN (Below.refl _ _) d) _)
      · have : k = n := by omega
        subst this
        have HF := Lib.hid (sameB_all LX.out LY.out hall)
        go_wp2
        go_ret
        exact RetB.of (ret_bool HF.out.symm) (below_drewN (Below.refl _ _) d)
  · have hne : ((n : Int) != (n' : Int)) = true := by simp; omega
    have hf : sameB xs ys = false := sameB_len (by omega)
    have HF := Lib.hid hf
    clear hf lx ly
    go_enter Try.func44, Try.ntmps44
    go_wp2
    go_ret
    exact RetB.of (ret_bool HF.out.symm) (Below.refl _ _)


set_option maxHeartbeats 1000000 in
theorem rsame_any (A B D A' B' D' : Option Addr) (n a m b k d n' a' m' b' k' d' : Nat) (next head tail next' head' tail' : List Int) (w : World) (hp : Chn w A n B m D k next head tail) (hq : Chn w A' n' B' m' D' k' next' head' tail') :
    Calls Try.prog 20 #[.agg #[.slice A n a, .slice B m b, .slice D k d], .agg #[.slice A' n' a', .slice B' m' b', .slice D' k' d']] w (RetB (.bool (sameC next next' head head' tail tail')) w) := by
  have hb2 := ((Below.refl w.heap.size w).alloc (Nat.le_refl _) (.cells #[.slice A n a, .slice B m b, .slice D k d] 24)).alloc (by simp) (.cells #[.slice A' n' a', .slice B' m' b', .slice D' k' d'] 24)
  have HP2 := Lib.hid (hp.below hb2)
  have HQ2 := Lib.hid (hq.below hb2)
  have HB2 := Lib.hid hb2
  have KP2 := (Bk.new w 24 #[.slice A n a, .slice B m b, .slice D k d]).alloc (.cells #[.slice A' n' a', .slice B' m' b', .slice D' k' d'] 24)
  have KQ2 := Bk.new (w.alloc (.cells #[.slice A n a, .slice B m b, .slice D k d] 24)) 24 #[.slice A' n' a', .slice B' m' b', .slice D' k' d']
  rw [size_alloc] at KQ2
  have p0 := KP2.e0
  have q0 := KQ2.e0
  obtain ⟨b1, hb1⟩ : ∃ x, sameB next next' = x := ⟨_, rfl⟩
  obtain ⟨b2, hb2'⟩ : ∃ x, sameB head head' = x := ⟨_, rfl⟩
  obtain ⟨b3, hb3'⟩ : ∃ x, sameB tail tail' = x := ⟨_, rfl⟩
  have HS : Hid (sameC next next' head head' tail tail' = (b1 && (b2 && b3))) := Lib.hid (by rw [sameC, hb1, hb2', hb3'])
  clear hp hq hb2
  cases b1 with
  | false =>
    go_enter Try.func20, Try.ntmps20
    go_wp2_with ((go_at_call 28; refine (rsameInts_any A A' n a n' a' next next' _ HP2.out.x HQ2.out.x).mono ?_; rintro e w3 ⟨rfl, hb3⟩; have HP3 := Lib.hid (HP2.out.below hb3); have HQ3 := Lib.hid (HQ2.out.below hb3); have KP3 := KP2.below hb3 KP2.lt; have KQ3 := KQ2.below hb3 KQ2.lt; have HB3 := Lib.hid (below3 HB2.out hb3); have p1 := KP3.e1; have p2 := KP3.e2; have q1 := KQ3.e1; have q2 := KQ3.e2; clear hb3 HP2 HQ2); rw [hb1])
    go_ret
    exact RetB.of (ret_bool (by rw [HS.out]; rfl)) HB3.out
  | true =>
    cases b2 with
    | false =>
      go_enter Try.func20, Try.ntmps20
      go_wp2_with first
        | ((go_at_call 28; refine (rsameInts_any A A' n a n' a' next next' _ HP2.out.x HQ2.out.x).mono ?_; rintro e w3 ⟨rfl, hb3⟩; have HP3 := Lib.hid (HP2.out.below hb3); have HQ3 := Lib.hid (HQ2.out.below hb3); have KP3 := KP2.below hb3 KP2.lt; have KQ3 := KQ2.below hb3 KQ2.lt; have HB3 := Lib.hid (below3 HB2.out hb3); have p1 := KP3.e1; have p2 := KP3.e2; have q1 := KQ3.e1; have q2 := KQ3.e2; clear hb3 HP2 HQ2); rw [hb1])
        | ((go_at_call 28; refine (rsameInts_any B B' m b m' b' head head' _ HP3.out.h HQ3.out.h).mono ?_; rintro e w4 ⟨rfl, hb4⟩; have HP4 := Lib.hid (HP3.out.below hb4); have HQ4 := Lib.hid (HQ3.out.below hb4); have KP4 := KP3.below hb4 KP3.lt; have KQ4 := KQ3.below hb4 KQ3.lt; have HB4 := Lib.hid (below3 HB3.out hb4); have p1 := KP4.e1; have p2 := KP4.e2; have q1 := KQ4.e1; have q2 := KQ4.e2; clear hb4 HP3 HQ3); rw [hb2'])
      go_ret
      exact RetB.of (ret_bool (by rw [HS.out]; rfl)) HB4.out
    | true =>
      go_enter Try.func20, Try.ntmps20
      go_wp2_with first
        | ((go_at_call 28; refine (rsameInts_any A A' n a n' a' next next' _ HP2.out.x HQ2.out.x).mono ?_; rintro e w3 ⟨rfl, hb3⟩; have HP3 := Lib.hid (HP2.out.below hb3); have HQ3 := Lib.hid (HQ2.out.below hb3); have KP3 := KP2.below hb3 KP2.lt; have KQ3 := KQ2.below hb3 KQ2.lt; have HB3 := Lib.hid (below3 HB2.out hb3); have p1 := KP3.e1; have p2 := KP3.e2; have q1 := KQ3.e1; have q2 := KQ3.e2; clear hb3 HP2 HQ2); rw [hb1])
        | ((go_at_call 28; refine (rsameInts_any B B' m b m' b' head head' _ HP3.out.h HQ3.out.h).mono ?_; rintro e w4 ⟨rfl, hb4⟩; have HP4 := Lib.hid (HP3.out.below hb4); have HQ4 := Lib.hid (HQ3.out.below hb4); have KP4 := KP3.below hb4 KP3.lt; have KQ4 := KQ3.below hb4 KQ3.lt; have HB4 := Lib.hid (below3 HB3.out hb4); have p1 := KP4.e1; have p2 := KP4.e2; have q1 := KQ4.e1; have q2 := KQ4.e2; clear hb4 HP3 HQ3); rw [hb2'])
        | ((go_at_call 28; refine (rsameInts_any D D' k d k' d' tail tail' _ HP4.out.t HQ4.out.t).mono ?_; rintro e w5 ⟨rfl, hb5⟩; have HP5 := Lib.hid (HP4.out.below hb5); have HQ5 := Lib.hid (HQ4.out.below hb5); have KP5 := KP4.below hb5 KP4.lt; have KQ5 := KQ4.below hb5 KQ4.lt; have HB5 := Lib.hid (below3 HB4.out hb5); have p1 := KP5.e1; have p2 := KP5.e2; have q1 := KQ5.e1; have q2 := KQ5.e2; clear hb5 HP4 HQ4); rw [hb3'])
      go_ret
      exact RetB.of (ret_bool (by rw [HS.out]; rfl)) HB5.out

set_option maxHeartbeats 1000000 in
theorem same_any (A B D A' B' D' : Option Addr) (n a m b k d n' a' m' b' k' d' : Nat) (next head tail next' head' tail' : List Int) (w : World) (hp : Chn w A n B m D k next head tail) (hq : Chn w A' n' B' m' D' k' next' head' tail') :
    Calls Try.prog 30 #[.agg #[.slice A n a, .slice B m b, .slice D k d], .agg #[.slice A' n' a', .slice B' m' b', .slice D' k' d']] w (RetB (.bool (sameC next next' head head' tail tail')) w) := by
  have hb2 := ((Below.refl w.heap.size w).alloc (Nat.le_refl _) (.cells #[.slice A n a, .slice B m b, .slice D k d] 24)).alloc (by simp) (.cells #[.slice A' n' a', .slice B' m' b', .slice D' k' d'] 24)
  have HP2 := Lib.hid (hp.below hb2)
  have HQ2 := Lib.hid (hq.below hb2)
  have HB2 := Lib.hid hb2
  have KP2 := (Bk.new w 24 #[.slice A n a, .slice B m b, .slice D k d]).alloc (.cells #[.slice A' n' a', .slice B' m' b', .slice D' k' d'] 24)
  have KQ2 := Bk.new (w.alloc (.cells #[.slice A n a, .slice B m b, .slice D k d] 24)) 24 #[.slice A' n' a', .slice B' m' b', .slice D' k' d']
  rw [size_alloc] at KQ2
  have p0 := KP2.e0
  have q0 := KQ2.e0
  obtain ⟨b1, hb1⟩ : ∃ x, sameB next next' = x := ⟨_, rfl⟩
  obtain ⟨b2, hb2'⟩ : ∃ x, sameB head head' = x := ⟨_, rfl⟩
  obtain ⟨b3, hb3'⟩ : ∃ x, sameB tail tail' = x := ⟨_, rfl⟩
  have HS : Hid (sameC next next' head head' tail tail' = (b1 && (b2 && b3))) := Lib.hid (by rw [sameC, hb1, hb2', hb3'])
  clear hp hq hb2
  cases b1 with
  | false =>
    go_enter Try.func30, Try.ntmps30
    go_wp2_with ((go_at_call 44; refine (equalI_any A A' n a n' a' next next' _ HP2.out.x HQ2.out.x).mono ?_; rintro e w3 ⟨rfl, hb3⟩; have HP3 := Lib.hid (HP2.out.below hb3); have HQ3 := Lib.hid (HQ2.out.below hb3); have KP3 := KP2.below hb3 KP2.lt; have KQ3 := KQ2.below hb3 KQ2.lt; have HB3 := Lib.hid (below3 HB2.out hb3); have p1 := KP3.e1; have p2 := KP3.e2; have q1 := KQ3.e1; have q2 := KQ3.e2; clear hb3 HP2 HQ2); rw [hb1])
    go_ret
    exact RetB.of (ret_bool (by rw [HS.out]; rfl)) HB3.out
  | true =>
    cases b2 with
    | false =>
      go_enter Try.func30, Try.ntmps30
      go_wp2_with first
        | ((go_at_call 44; refine (equalI_any A A' n a n' a' next next' _ HP2.out.x HQ2.out.x).mono ?_; rintro e w3 ⟨rfl, hb3⟩; have HP3 := Lib.hid (HP2.out.below hb3); have HQ3 := Lib.hid (HQ2.out.below hb3); have KP3 := KP2.below hb3 KP2.lt; have KQ3 := KQ2.below hb3 KQ2.lt; have HB3 := Lib.hid (below3 HB2.out hb3); have p1 := KP3.e1; have p2 := KP3.e2; have q1 := KQ3.e1; have q2 := KQ3.e2; clear hb3 HP2 HQ2); rw [hb1])
        | ((go_at_call 44; refine (equalI_any B B' m b m' b' head head' _ HP3.out.h HQ3.out.h).mono ?_; rintro e w4 ⟨rfl, hb4⟩; have HP4 := Lib.hid (HP3.out.below hb4); have HQ4 := Lib.hid (HQ3.out.below hb4); have KP4 := KP3.below hb4 KP3.lt; have KQ4 := KQ3.below hb4 KQ3.lt; have HB4 := Lib.hid (below3 HB3.out hb4); have p1 := KP4.e1; have p2 := KP4.e2; have q1 := KQ4.e1; have q2 := KQ4.e2; clear hb4 HP3 HQ3); rw [hb2'])
      go_ret
      exact RetB.of (ret_bool (by rw [HS.out]; rfl)) HB4.out
    | true =>
      go_enter Try.func30, Try.ntmps30
      go_wp2_with first
        | ((go_at_call 44; refine (equalI_any A A' n a n' a' next next' _ HP2.out.x HQ2.out.x).mono ?_; rintro e w3 ⟨rfl, hb3⟩; have HP3 := Lib.hid (HP2.out.below hb3); have HQ3 := Lib.hid (HQ2.out.below hb3); have KP3 := KP2.below hb3 KP2.lt; have KQ3 := KQ2.below hb3 KQ2.lt; have HB3 := Lib.hid (below3 HB2.out hb3); have p1 := KP3.e1; have p2 := KP3.e2; have q1 := KQ3.e1; have q2 := KQ3.e2; clear hb3 HP2 HQ2); rw [hb1])
        | ((go_at_call 44; refine (equalI_any B B' m b m' b' head head' _ HP3.out.h HQ3.out.h).mono ?_; rintro e w4 ⟨rfl, hb4⟩; have HP4 := Lib.hid (HP3.out.below hb4); have HQ4 := Lib.hid (HQ3.out.below hb4); have KP4 := KP3.below hb4 KP3.lt; have KQ4 := KQ3.below hb4 KQ3.lt; have HB4 := Lib.hid (below3 HB3.out hb4); have p1 := KP4.e1; have p2 := KP4.e2; have q1 := KQ4.e1; have q2 := KQ4.e2; clear hb4 HP3 HQ3); rw [hb2'])
        | ((go_at_call 44; refine (equalI_any D D' k d k' d' tail tail' _ HP4.out.t HQ4.out.t).mono ?_; rintro e w5 ⟨rfl, hb5⟩; have HP5 := Lib.hid (HP4.out.below hb5); have HQ5 := Lib.hid (HQ4.out.below hb5); have KP5 := KP4.below hb5 KP4.lt; have KQ5 := KQ4.below hb5 KQ4.lt; have HB5 := Lib.hid (below3 HB4.out hb5); have p1 := KP5.e1; have p2 := KP5.e2; have q1 := KQ5.e1; have q2 := KQ5.e2; clear hb5 HP4 HQ4); rw [hb3'])
      go_ret
      exact RetB.of (ret_bool (by rw [HS.out]; rfl)) HB5.out

end Go.Proofs.Ytiheeehegjfmgaa

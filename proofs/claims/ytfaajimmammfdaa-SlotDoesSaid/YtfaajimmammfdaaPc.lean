/-
  Contracts of layer 5's Check: the program's and the document's.
-/
import Derived.Test.YtfaajimmammfdaaPa
import Derived.Deep.QuietTactic
import Derived.BigQuiet
namespace Go.Proofs.Ytfaajimmammfdaa
open Go.RowKit

/-- Of the first k places each may be. -/
def okK (gs : List Int) (ls : List Bool) (k : Nat) : Prop := ∀ i, i < k → 0 ≤ nth gs i ∧ nth gs i ≤ 1099511627776 ∧ (bth ls i = true → nth gs i < 1099511627776)
theorem okK_next {gs : List Int} {ls : List Bool} {k : Nat} (h : okK gs ls k) (h1 : 0 ≤ nth gs k ∧ nth gs k ≤ 1099511627776 ∧ (bth ls k = true → nth gs k < 1099511627776)) : okK gs ls (k + 1) := fun j hj => by
  rcases Nat.lt_or_ge j k with h' | h'
  · exact h j h'
  · obtain rfl : j = k := by omega
    exact h1
theorem errS_at {gs : List Int} {ls : List Bool} {k : Nat} (hk : k < gs.length) (h : ¬ (0 ≤ nth gs k ∧ nth gs k ≤ 1099511627776 ∧ (bth ls k = true → nth gs k < 1099511627776))) : errS gs ls = 1 := errS_no (fun h' => h (h'.2.2.2 k hk))

def ChRel (gs : List Int) (ls : List Bool) (n : Nat) (w : World) (t : Value) (wr : World) : Prop := ∃ k : Nat, k ≤ n ∧ t = .int .i64 k ∧ okK gs ls k ∧ Below w.heap.size w wr

theorem mostQ (b : Bool) (w : World) (n : Nat) : Calls Try.prog 28 #[.bool b] (w.drewN n) fun e w' => e = .returned (.int .i64 (if b = true then 1099511627775 else 1099511627776)) ∧ w' = w.drewN n :=
  (most_any b _).mono fun _ _ ⟨h1, h2⟩ => ⟨h1, h2.symm⟩
theorem mostT (w : World) (n : Nat) : Calls Try.prog 28 #[.bool true] (w.drewN n) fun e w' => e = .returned (.int .i64 1099511627775) ∧ w' = w.drewN n := mostQ true w n
theorem mostF (w : World) (n : Nat) : Calls Try.prog 28 #[.bool false] (w.drewN n) fun e w' => e = .returned (.int .i64 1099511627776) ∧ w' = w.drewN n := mostQ false w n

set_option maxHeartbeats 2000000 in
theorem check_any (A B : Option Addr) (n c m d : Nat) (gs : List Int) (ls : List Bool) (w : World) (hp : Plc w A n B m gs ls) :
    Calls Try.prog 22 #[.agg #[.slice A n c, .slice B m d]] w (RetB (.int .i64 (errS gs ls)) w) := by
  have HP := Lib.hid hp
  have HN := Lib.hid hp.g.1
  have HM := Lib.hid hp.l.1
  have hn := Nat.le_trans (Nat.le_mul_of_pos_right n (by omega : 0 < 8)) hp.g.2.1
  have hm := hp.l.2.1
  have HK := Lib.hid (Bk.new w 25 #[.slice A n c, .slice B m d])
  have B0 := Lib.hid ((Below.refl w.heap.size w).alloc (Nat.le_refl _) (.cells #[.slice A n c, .slice B m d] 25))
  clear hp
  by_cases h1 : n < 1
  · have HE := Lib.hid (errS_no (gs := gs) (ls := ls) (fun h => by have := h.1; have := HN.out; omega))
    go_enter Try.func22, Try.ntmps22
    go_wp2
    go_ret
    rw [HE.out]
    exact RetB.of rfl B0.out
  · by_cases h2 : 256 < n
    · have HE := Lib.hid (errS_no (gs := gs) (ls := ls) (fun h => by have := h.2.1; have := HN.out; omega))
      go_enter Try.func22, Try.ntmps22
      go_wp2
      go_ret
      rw [HE.out]
      exact RetB.of rfl B0.out
    · by_cases hmn : m = n
      · subst hmn
        go_enter Try.func22, Try.ntmps22
        go_wp2
        go_loopw [27] (fun t wr => ChRel gs ls m (w.alloc (.cells #[.slice A m c, .slice B m d] 25)) t wr) (fun t _ => m - (intOf t).toNat)
        case atStart => exact ⟨0, Nat.zero_le _, rfl, fun j hj => absurd hj (by omega), Below.refl _ _⟩
        case round =>
          obtain ⟨k, hk, rfl, hq, hbr⟩ := hrel
          have HQ := Lib.hid hq
          have HBR := Lib.hid hbr
          have HBW := Lib.hid (below3 B0.out hbr)
          have HKR := Lib.hid (HK.out.below hbr HK.out.lt)
          clear hq hbr
          by_cases hlt : k < m
          · have hp' := HP.out.below HBW.out
            obtain ⟨b, o, rfl, hb, hc⟩ := hp'.g.2.2.2 (by omega)
            obtain ⟨b', o', rfl, hb', hc'⟩ := hp'.l.2.2 (by omega)
            have c1 := hc k hlt
            have c2 := hc' k hlt
            have k0 := HKR.out.c0
            have k1 := HKR.out.c1
            clear hc hc' hp'
            obtain ⟨x, hx⟩ : ∃ x, nth gs k = x := ⟨_, rfl⟩
            obtain ⟨y, hy⟩ : ∃ y, bth ls k = y := ⟨_, rfl⟩
            have HX := Lib.hid hx
            have HY := Lib.hid hy
            rw [hx] at c1
            rw [hy] at c2
            clear hx hy
            have HG : Hid (k < gs.length) := Lib.hid (by rw [HN.out]; exact hlt)
            by_cases h0 : x < 0
            · have HE := Lib.hid (errS_at (ls := ls) HG.out (by rw [HX.out]; intro h; omega))
              go_wp2
              go_quiet (fail)
              go_wp2
              go_ret
              rw [HE.out]
              exact RetB.of rfl (below_drewN HBW.out _)
            · have hd0 : decide (x < 0) = false := by simpa using h0
              cases y
              · by_cases h3 : 1099511627776 < x
                · have HE := Lib.hid (errS_at (ls := ls) HG.out (by rw [HX.out]; intro h; omega))
                  go_wp2
                  go_quiet ((go_at_call 28; exact Calls.quiet_of_same (mostF _ _)))
                  go_wp2
                  go_ret
                  rw [HE.out]
                  exact RetB.of rfl (below_drewN HBW.out _)
                · have HQ' := Lib.hid (okK_next HQ.out (by rw [HX.out, HY.out]; exact ⟨by omega, by omega, by simp⟩))
                  go_wp2
                  go_quiet ((go_at_call 28; exact Calls.quiet_of_same (mostF _ _)))
                  go_wp2
                  go_roundw
                  case rel => exact ⟨k + 1, by omega, by go_num, HQ'.out, below_drewN HBR.out _⟩
                  case measure => simp [intOf]; omega
              · by_cases h3 : 1099511627775 < x
                · have HE := Lib.hid (errS_at (ls := ls) HG.out (by rw [HX.out, HY.out]; intro h; have := h.2.2 rfl; omega))
                  go_wp2
                  go_quiet ((go_at_call 28; exact Calls.quiet_of_same (mostT _ _)))
                  go_wp2
                  go_ret
                  rw [HE.out]
                  exact RetB.of rfl (below_drewN HBW.out _)
                · have HQ' := Lib.hid (okK_next HQ.out (by rw [HX.out, HY.out]; exact ⟨by omega, by omega, fun _ => by omega⟩))
                  go_wp2
                  go_quiet ((go_at_call 28; exact Calls.quiet_of_same (mostT _ _)))
                  go_wp2
                  go_roundw
                  case rel => exact ⟨k + 1, by omega, by go_num, HQ'.out, below_drewN HBR.out _⟩
                  case measure => simp [intOf]; omega
          · have HE := Lib.hid (errS_ok (gs := gs) (ls := ls) ⟨by rw [HN.out]; omega, by rw [HN.out]; omega, by rw [HN.out, HM.out], fun j hj => HQ.out j (by rw [HN.out] at hj; omega)⟩)
            go_wp2
            go_ret
            rw [HE.out]
            exact RetB.of rfl HBW.out
      · have h3 : ((m : Int) != (n : Int)) = true := by simp; omega
        have HE := Lib.hid (errS_no (gs := gs) (ls := ls) (fun h => by have := h.2.2.1; have := HN.out; have := HM.out; omega))
        go_enter Try.func22, Try.ntmps22
        go_wp2
        go_ret
        rw [HE.out]
        exact RetB.of rfl B0.out

set_option maxHeartbeats 2000000 in
theorem rcheck_any (A B : Option Addr) (n c m d : Nat) (gs : List Int) (ls : List Bool) (w : World) (hp : Plc w A n B m gs ls) :
    Calls Try.prog 23 #[.agg #[.slice A n c, .slice B m d]] w (RetB (.int .i64 (errS gs ls)) w) := by
  have HP := Lib.hid hp
  have HN := Lib.hid hp.g.1
  have HM := Lib.hid hp.l.1
  have hn := Nat.le_trans (Nat.le_mul_of_pos_right n (by omega : 0 < 8)) hp.g.2.1
  have hm := hp.l.2.1
  have HK := Lib.hid (Bk.new w 25 #[.slice A n c, .slice B m d])
  have B0 := Lib.hid ((Below.refl w.heap.size w).alloc (Nat.le_refl _) (.cells #[.slice A n c, .slice B m d] 25))
  clear hp
  by_cases h1 : n < 1
  · have HE := Lib.hid (errS_no (gs := gs) (ls := ls) (fun h => by have := h.1; have := HN.out; omega))
    go_enter Try.func23, Try.ntmps23
    go_wp2
    go_ret
    rw [HE.out]
    exact RetB.of rfl B0.out
  · by_cases h2 : 256 < n
    · have HE := Lib.hid (errS_no (gs := gs) (ls := ls) (fun h => by have := h.2.1; have := HN.out; omega))
      go_enter Try.func23, Try.ntmps23
      go_wp2
      go_ret
      rw [HE.out]
      exact RetB.of rfl B0.out
    · by_cases hmn : m = n
      · subst hmn
        go_enter Try.func23, Try.ntmps23
        go_wp2
        go_loopw [27] (fun t wr => ChRel gs ls m (w.alloc (.cells #[.slice A m c, .slice B m d] 25)) t wr) (fun t _ => m - (intOf t).toNat)
        case atStart => exact ⟨0, Nat.zero_le _, rfl, fun j hj => absurd hj (by omega), Below.refl _ _⟩
        case round =>
          obtain ⟨k, hk, rfl, hq, hbr⟩ := hrel
          have HQ := Lib.hid hq
          have HBR := Lib.hid hbr
          have HBW := Lib.hid (below3 B0.out hbr)
          have HKR := Lib.hid (HK.out.below hbr HK.out.lt)
          clear hq hbr
          by_cases hlt : k < m
          · have hp' := HP.out.below HBW.out
            obtain ⟨b, o, rfl, hb, hc⟩ := hp'.g.2.2.2 (by omega)
            obtain ⟨b', o', rfl, hb', hc'⟩ := hp'.l.2.2 (by omega)
            have c1 := hc k hlt
            have c2 := hc' k hlt
            have k0 := HKR.out.c0
            have k1 := HKR.out.c1
            clear hc hc' hp'
            obtain ⟨x, hx⟩ : ∃ x, nth gs k = x := ⟨_, rfl⟩
            obtain ⟨y, hy⟩ : ∃ y, bth ls k = y := ⟨_, rfl⟩
            have HX := Lib.hid hx
            have HY := Lib.hid hy
            rw [hx] at c1
            rw [hy] at c2
            clear hx hy
            have HG : Hid (k < gs.length) := Lib.hid (by rw [HN.out]; exact hlt)
            by_cases h0 : x < 0
            · have HE := Lib.hid (errS_at (ls := ls) HG.out (by rw [HX.out]; intro h; omega))
              go_wp2
              go_ret
              rw [HE.out]
              exact RetB.of rfl HBW.out
            · by_cases h3 : 1099511627776 < x
              · have HE := Lib.hid (errS_at (ls := ls) HG.out (by rw [HX.out]; intro h; omega))
                go_wp2
                go_ret
                rw [HE.out]
                exact RetB.of rfl HBW.out
              · cases y
                · have HQ' := Lib.hid (okK_next HQ.out (by rw [HX.out, HY.out]; exact ⟨by omega, by omega, by simp⟩))
                  go_wp2
                  go_roundw
                  case rel => exact ⟨k + 1, by omega, by go_num, HQ'.out, HBR.out⟩
                  case measure => simp [intOf]; omega
                · by_cases h4 : x = 1099511627776
                  · have HE := Lib.hid (errS_at (ls := ls) HG.out (by rw [HX.out, HY.out]; intro h; have := h.2.2 rfl; omega))
                    have h5 : (x == 1099511627776) = true := by simpa using h4
                    clear h4
                    go_wp2
                    go_ret
                    rw [HE.out]
                    exact RetB.of rfl HBW.out
                  · have HQ' := Lib.hid (okK_next HQ.out (by rw [HX.out, HY.out]; exact ⟨by omega, by omega, fun _ => by omega⟩))
                    have h5 : (x == 1099511627776) = false := by simpa using h4
                    clear h4
                    go_wp2
                    go_roundw
                    case rel => exact ⟨k + 1, by omega, by go_num, HQ'.out, HBR.out⟩
                    case measure => simp [intOf]; omega
          · have HE := Lib.hid (errS_ok (gs := gs) (ls := ls) ⟨by rw [HN.out]; omega, by rw [HN.out]; omega, by rw [HN.out, HM.out], fun j hj => HQ.out j (by rw [HN.out] at hj; omega)⟩)
            go_wp2
            go_ret
            rw [HE.out]
            exact RetB.of rfl HBW.out
      · have h3 : ((m : Int) != (n : Int)) = true := by simp; omega
        have HE := Lib.hid (errS_no (gs := gs) (ls := ls) (fun h => by have := h.2.2.1; have := HN.out; have := HM.out; omega))
        go_enter Try.func23, Try.ntmps23
        go_wp2
        go_ret
        rw [HE.out]
        exact RetB.of rfl B0.out

end Go.Proofs.Ytfaajimmammfdaa

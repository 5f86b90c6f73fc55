/-
  Two lists of descriptors held against one another: the document's Same, and slices.Equal; lists of numbers: the document's Same of layer 1.
-/
import Derived.Test.YtndbaoiabmldgaaDa
import Derived.Deep.QuietTactic
namespace Go.Proofs.Ytndbaoiabmldgaa
open Go.RowKit

theorem drewN_two (w : World) (a b : Nat) : ∃ k, (w.drewN a).drewN b = w.drewN k := ⟨a + b, by rw [World.drewN_drewN]⟩
def sameD (a b : List Ds) : Bool := decide (a = b)
theorem sameD_refl (a : List Ds) : sameD a a = true := decide_eq_true rfl
theorem sameD_len {a b : List Ds} (h : a.length ≠ b.length) : sameD a b = false := decide_eq_false (fun e => h (by rw [e]))
theorem sameD_at {a b : List Ds} (k : Nat) (h : dth a k ≠ dth b k) : sameD a b = false := decide_eq_false (fun e => h (by rw [e]))
theorem sameD_all {a b : List Ds} {n : Nat} (h1 : a.length = n) (h2 : b.length = n) (h : ∀ j, j < n → dth a j = dth b j) : sameD a b = true := by
  refine decide_eq_true (List.ext_getElem (by omega) fun i hi hj => ?_)
  have := h i (by omega)
  rw [dth_get hi, dth_get hj] at this
  exact this
def sameZ (a b : List Int) : Bool := decide (a = b)
theorem sameZ_refl (a : List Int) : sameZ a a = true := decide_eq_true rfl
theorem sameZ_len {a b : List Int} (h : a.length ≠ b.length) : sameZ a b = false := decide_eq_false (fun e => h (by rw [e]))
theorem sameZ_at {a b : List Int} (k : Nat) (h : nth a k ≠ nth b k) : sameZ a b = false := decide_eq_false (fun e => h (by rw [e]))
theorem sameZ_all {a b : List Int} {n : Nat} (h1 : a.length = n) (h2 : b.length = n) (h : ∀ j, j < n → nth a j = nth b j) : sameZ a b = true := by
  refine decide_eq_true (List.ext_getElem (by omega) fun i hi hj => ?_)
  have := h i (by omega)
  rw [nth_get hi, nth_get hj] at this
  exact this

set_option maxHeartbeats 2000000 in
theorem rsame_any (A A' : Option Addr) (n c n' c' : Nat) (xs ys : List Ds) (w : World) (hx : Dss w A n c xs) (hy : Dss w A' n' c' ys) :
    Calls Try.prog 20 #[.slice A n c, .slice A' n' c'] w (RetB (.bool (sameD xs ys)) w) := by
  have HX := Lib.hid hx
  have HY := Lib.hid hy
  have hn0 := hx.2.1
  have LX := Lib.hid hx.1
  have LY := Lib.hid hy.1
  clear hx hy
  by_cases hn : n = n'
  · subst hn
    go_enter Try.func20, Try.ntmps20
    go_wp2_with fail
    go_loopw [13] (fun t wr => ∃ k : Nat, k ≤ n ∧ t = .int .i64 k ∧ (∃ d, wr = w.drewN d) ∧ Hid (∀ j, j < k → dth xs j = dth ys j)) (fun t _ => n - (intOf t).toNat)
    case atStart => exact ⟨0, Nat.zero_le _, rfl, ⟨0, rfl⟩, fun j hj => by omega⟩
    case round =>
      obtain ⟨k, hk, rfl, ⟨d, rfl⟩, hall⟩ := hrel
      by_cases hlt : k < n
      · obtain ⟨bL, oL, rfl, hbL, c0, c1, c2⟩ := HX.out.at_ hlt
        obtain ⟨bR, oR, rfl, hbR, d0, d1, d2⟩ := HY.out.at_ hlt
        obtain ⟨⟨o1, r1, z1⟩, hz⟩ : ∃ x, dth xs k = x := ⟨_, rfl⟩
        obtain ⟨⟨o2, r2, z2⟩, hy⟩ : ∃ x, dth ys k = x := ⟨_, rfl⟩
        rw [hz] at c0 c1 c2
        rw [hy] at d0 d1 d2
        simp only at c0 c1 c2 d0 d1 d2
        have hN := neq_fd o1 r1 z1 o2 r2 z2
        have hG := guard_fd .neq
        by_cases he : ((o1, r1, z1) : Ds) = (o2, r2, z2)
        · have hall2 : Hid (∀ j, j < k + 1 → dth xs j = dth ys j) := Lib.hid fun j hj => by
            by_cases e : j = k
            · subst e; rw [hz, hy, he]
            · exact hall.out j (by omega)
          injection he with e1 e2
          injection e2 with e2 e3
          subst e1 e2 e3
          simp only [decide_true, Bool.not_true] at hN
          clear hz hy
          go_wp2_with fail
          go_quiet (fail)
          go_wp2_with fail
          go_roundw
          case rel => exact ⟨k + 1, by omega, by go_num, ⟨_, rfl⟩, hall2⟩
          case measure => simp [intOf]; omega
        · rw [sameD_at (a := xs) (b := ys) k (by rw [hz, hy]; exact he)]
          simp only [decide_eq_false he, Bool.not_false] at hN
          clear he hz hy
          go_wp2_with fail
          go_quiet (fail)
          go_wp2_with fail
          go_ret
          obtain ⟨q, hq⟩ := drewN_two w d nq
          exact ⟨rfl, by rw [hq]; exact below_drewN (Below.refl _ _) q⟩
      · obtain rfl : n = k := by omega
        have HF := Lib.hid (sameD_all LX.out LY.out hall.out)
        go_wp2_with fail
        go_ret
        exact ⟨ret_bool HF.out.symm, below_drewN (Below.refl _ _) d⟩
  · rw [sameD_len (by rw [LX.out, LY.out]; exact hn)]
    have hne : ((n : Int) != (n' : Int)) = true := by simp; omega
    go_enter Try.func20, Try.ntmps20
    go_wp2_with fail
    go_ret
    exact ⟨rfl, Below.refl _ _⟩

set_option maxHeartbeats 2000000 in
theorem equal_any (A A' : Option Addr) (n c n' c' : Nat) (xs ys : List Ds) (w : World) (hx : Dss w A n c xs) (hy : Dss w A' n' c' ys) :
    Calls Try.prog 39 #[.slice A n c, .slice A' n' c'] w (RetB (.bool (sameD xs ys)) w) := by
  have HX := Lib.hid hx
  have HY := Lib.hid hy
  have hn0 := hx.2.1
  have LX := Lib.hid hx.1
  have LY := Lib.hid hy.1
  clear hx hy
  by_cases hn : n = n'
  · subst hn
    go_enter Try.func39, Try.ntmps39
    go_wp2_with fail
    go_loopw [13] (fun t wr => ∃ k : Nat, k ≤ n ∧ t = .int .i64 k ∧ (∃ d, wr = w.drewN d) ∧ Hid (∀ j, j < k → dth xs j = dth ys j)) (fun t _ => n - (intOf t).toNat)
    case atStart => exact ⟨0, Nat.zero_le _, rfl, ⟨0, rfl⟩, fun j hj => by omega⟩
    case round =>
      obtain ⟨k, hk, rfl, ⟨d, rfl⟩, hall⟩ := hrel
      by_cases hlt : k < n
      · obtain ⟨bL, oL, rfl, hbL, c0, c1, c2⟩ := HX.out.at_ hlt
        obtain ⟨bR, oR, rfl, hbR, d0, d1, d2⟩ := HY.out.at_ hlt
        obtain ⟨⟨o1, r1, z1⟩, hz⟩ : ∃ x, dth xs k = x := ⟨_, rfl⟩
        obtain ⟨⟨o2, r2, z2⟩, hy⟩ : ∃ x, dth ys k = x := ⟨_, rfl⟩
        rw [hz] at c0 c1 c2
        rw [hy] at d0 d1 d2
        simp only at c0 c1 c2 d0 d1 d2
        have hN := neq_fd o1 r1 z1 o2 r2 z2
        have hG := guard_fd .neq
        by_cases he : ((o1, r1, z1) : Ds) = (o2, r2, z2)
        · have hall2 : Hid (∀ j, j < k + 1 → dth xs j = dth ys j) := Lib.hid fun j hj => by
            by_cases e : j = k
            · subst e; rw [hz, hy, he]
            · exact hall.out j (by omega)
          injection he with e1 e2
          injection e2 with e2 e3
          subst e1 e2 e3
          simp only [decide_true, Bool.not_true] at hN
          clear hz hy
          go_wp2_with fail
          go_quiet (fail)
          go_wp2_with fail
          go_roundw
          case rel => exact ⟨k + 1, by omega, by go_num, ⟨_, rfl⟩, hall2⟩
          case measure => simp [intOf]; omega
        · rw [sameD_at (a := xs) (b := ys) k (by rw [hz, hy]; exact he)]
          simp only [decide_eq_false he, Bool.not_false] at hN
          clear he hz hy
          go_wp2_with fail
          go_quiet (fail)
          go_wp2_with fail
          go_ret
          obtain ⟨q, hq⟩ := drewN_two w d nq
          exact ⟨rfl, by rw [hq]; exact below_drewN (Below.refl _ _) q⟩
      · obtain rfl : n = k := by omega
        have HF := Lib.hid (sameD_all LX.out LY.out hall.out)
        go_wp2_with fail
        go_ret
        exact ⟨ret_bool HF.out.symm, below_drewN (Below.refl _ _) d⟩
  · rw [sameD_len (by rw [LX.out, LY.out]; exact hn)]
    have hne : ((n : Int) != (n' : Int)) = true := by simp; omega
    go_enter Try.func39, Try.ntmps39
    go_wp2_with fail
    go_ret
    exact ⟨rfl, Below.refl _ _⟩

set_option maxHeartbeats 2000000 in
theorem same1_any (A A' : Option Addr) (n c n' c' : Nat) (xs ys : List Int) (w : World) (hx : Ints w A n xs) (hy : Ints w A' n' ys) (hnc : n ≤ c ∧ c ≤ 9223372036854775807) (hnc' : n' ≤ c' ∧ c' ≤ 9223372036854775807) :
    Calls Try.prog 25 #[.slice A n c, .slice A' n' c'] w (RetB (.bool (sameZ xs ys)) w) := by
  have HX := Lib.hid hx
  have HY := Lib.hid hy
  have hn0 := hnc
  have LX := Lib.hid hx.1
  have LY := Lib.hid hy.1
  clear hx hy
  by_cases hn : n = n'
  · subst hn
    go_enter Try.func25, Try.ntmps25
    go_wp2_with fail
    go_loopw [13] (fun t wr => ∃ k : Nat, k ≤ n ∧ t = .int .i64 k ∧ (∃ d, wr = w.drewN d) ∧ Hid (∀ j, j < k → nth xs j = nth ys j)) (fun t _ => n - (intOf t).toNat)
    case atStart => exact ⟨0, Nat.zero_le _, rfl, ⟨0, rfl⟩, fun j hj => by omega⟩
    case round =>
      obtain ⟨k, hk, rfl, ⟨d, rfl⟩, hall⟩ := hrel
      by_cases hlt : k < n
      · obtain ⟨bL, oL, rfl, hbL, c0⟩ := HX.out.2.2.2 (by omega)
        obtain ⟨bR, oR, rfl, hbR, d0⟩ := HY.out.2.2.2 (by omega)
        obtain ⟨z1, hz⟩ : ∃ x, nth xs k = x := ⟨_, rfl⟩
        obtain ⟨z2, hy⟩ : ∃ x, nth ys k = x := ⟨_, rfl⟩
        replace c0 := c0 k hlt
        replace d0 := d0 k hlt
        rw [hz] at c0
        rw [hy] at d0
        by_cases he : z1 = z2
        · have hall2 : Hid (∀ j, j < k + 1 → nth xs j = nth ys j) := Lib.hid fun j hj => by
            by_cases e : j = k
            · subst e; rw [hz, hy, he]
            · exact hall.out j (by omega)
          subst he
          have hb : (z1 != z1) = false := by simp
          clear hz hy
          go_wp2_with fail
          go_quiet (fail)
          go_wp2_with fail
          go_roundw
          case rel => exact ⟨k + 1, by omega, by go_num, ⟨_, rfl⟩, hall2⟩
          case measure => simp [intOf]; omega
        · rw [sameZ_at (a := xs) (b := ys) k (by rw [hz, hy]; exact he)]
          have hb : (z1 != z2) = true := by simpa using he
          clear he hz hy
          go_wp2_with fail
          go_quiet (fail)
          go_wp2_with fail
          go_ret
          obtain ⟨q, hq⟩ := drewN_two w d nq
          exact ⟨rfl, by rw [hq]; exact below_drewN (Below.refl _ _) q⟩
      · obtain rfl : n = k := by omega
        have HF := Lib.hid (sameZ_all LX.out LY.out hall.out)
        go_wp2_with fail
        go_ret
        exact ⟨ret_bool HF.out.symm, below_drewN (Below.refl _ _) d⟩
  · rw [sameZ_len (by rw [LX.out, LY.out]; exact hn)]
    have hne : ((n : Int) != (n' : Int)) = true := by simp; omega
    go_enter Try.func25, Try.ntmps25
    go_wp2_with fail
    go_ret
    exact ⟨rfl, Below.refl _ _⟩

theorem psame_any (A A' : Option Addr) (n c n' c' : Nat) (xs ys : List Ds) (w : World) (hx : Dss w A n c xs) (hy : Dss w A' n' c' ys) :
    Calls Try.prog 28 #[.slice A n c, .slice A' n' c'] w (RetB (.bool (sameD xs ys)) w) := by
  have HS := Lib.hid (equal_any A A' n c n' c' xs ys w hx hy)
  clear hx hy
  go_enter Try.func28, Try.ntmps28
  go_wp2_with fail
  refine HS.out.mono ?_
  rintro e w1 ⟨rfl, b1⟩
  have B1 := Lib.hid b1
  clear b1
  go_wp2_with fail
  go_ret
  exact ⟨rfl, B1.out⟩

end Go.Proofs.Ytndbaoiabmldgaa

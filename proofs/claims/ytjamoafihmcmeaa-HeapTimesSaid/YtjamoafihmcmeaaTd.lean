/-
  The document's layer 8: two lists held against one another.
-/
import Derived.Test.YtjamoafihmcmeaaTc
import Derived.Laws.StructEq
namespace Go.Proofs.Ytjamoafihmcmeaa
open Go.RowKit

theorem tim_stood : Try.prog.stoodInHeld 24 = false := by kernel_rfl
theorem tim_guardT : Try.prog.eqGuardType Try.prog.depth 24 = false := by kernel_rfl
theorem neq_tim (a b c d : Int) (W : World) : (binOp .neq 24 (.agg #[.int .i64 a, .int .i64 b]) (.agg #[.int .i64 c, .int .i64 d])).run Try.prog W = .ok (.bool (!(a == c && b == d))) W := by
  rw [run_neq_struct, run_equalIn_struct (d := 9999) W 24 _ _ (by simp [Program.fieldsOf, Try.underlying24]) tim_stood]
  simp only [Program.fieldsOf, Try.underlying24]
  by_cases h1 : a = c
  · by_cases h2 : b = d
    · subst h1 h2
      simp [Op.eqFields, go_sem]
    · have t2 : (b == d) = false := by simpa using h2
      subst h1
      simp [Op.eqFields, go_sem, t2]
  · have t1 : (a == c) = false := by simpa using h1
    simp [Op.eqFields, go_sem, t1]
theorem eql_tim (a b c d : Int) (W : World) : (binOp .eql 24 (.agg #[.int .i64 a, .int .i64 b]) (.agg #[.int .i64 c, .int .i64 d])).run Try.prog W = .ok (.bool (a == c && b == d)) W := by
  rw [run_eql_struct, run_equalIn_struct (d := 9999) W 24 _ _ (by simp [Program.fieldsOf, Try.underlying24]) tim_stood]
  simp only [Program.fieldsOf, Try.underlying24]
  by_cases h1 : a = c
  · by_cases h2 : b = d
    · subst h1 h2
      simp [Op.eqFields, go_sem]
    · have t2 : (b == d) = false := by simpa using h2
      subst h1
      simp [Op.eqFields, go_sem, t2]
  · have t1 : (a == c) = false := by simpa using h1
    simp [Op.eqFields, go_sem, t1]
theorem guard_tim (o : BinOp) (x y : Operand) (a b : Array Value) (W : World) : (eqGuard o 24 x y (.agg a) (.agg b)).run Try.prog W = .ok () W := run_eqGuard_agg W o 24 x y a b tim_guardT

theorem drewN_two (w : World) (a b : Nat) : ∃ k, (w.drewN a).drewN b = w.drewN k := ⟨a + b, by rw [World.drewN_drewN]⟩
def sameT (a b : List Tm) : Bool := decide (a = b)
theorem sameT_refl (a : List Tm) : sameT a a = true := decide_eq_true rfl
theorem sameT_len {a b : List Tm} (h : a.length ≠ b.length) : sameT a b = false := decide_eq_false (fun e => h (by rw [e]))
theorem sameT_at {a b : List Tm} (k : Nat) (h : ith a k ≠ ith b k) : sameT a b = false := decide_eq_false (fun e => h (by rw [e]))
theorem sameT_all {a b : List Tm} {n : Nat} (h1 : a.length = n) (h2 : b.length = n) (h : ∀ j, j < n → ith a j = ith b j) : sameT a b = true := by
  refine decide_eq_true (List.ext_getElem (by omega) fun i hi hj => ?_)
  have := h i (by omega)
  rw [ith_get hi, ith_get hj] at this
  exact this
def SameTA (b : Bool) (w : World) (e : Ending) (w' : World) : Prop := e = .returned (.bool b) ∧ ∃ k, w' = w.drewN k

set_option maxHeartbeats 1000000 in
theorem samelist_any (A A' : Option Addr) (n c n' c' : Nat) (xs ys : List Tm) (w : World) (hx : Tms w A n c xs) (hy : Tms w A' n' c' ys) :
    Calls Try.prog 18 #[.slice A n c, .slice A' n' c'] w (SameTA (sameT xs ys) w) := by
  have HX := Lib.hid hx
  have HY := Lib.hid hy
  have hn0 := hx.2.1
  have LX := Lib.hid hx.1
  have LY := Lib.hid hy.1
  clear hx hy
  by_cases hn : n = n'
  · subst hn
    go_enter Try.func18, Try.ntmps18
    go_wp2
    go_loopw [13] (fun t wr => ∃ k : Nat, k ≤ n ∧ t = .int .i64 k ∧ (∃ d, wr = w.drewN d) ∧ Hid (∀ j, j < k → ith xs j = ith ys j)) (fun t _ => n - (intOf t).toNat)
    case atStart => exact ⟨0, Nat.zero_le _, rfl, ⟨0, rfl⟩, fun j hj => by omega⟩
    case round =>
      obtain ⟨k, hk, rfl, ⟨d, rfl⟩, hall⟩ := hrel
      by_cases hlt : k < n
      · obtain ⟨bL, oL, rfl, hbL, c0, c1⟩ := HX.out.at_ hlt
        obtain ⟨bR, oR, rfl, hbR, d0, d1⟩ := HY.out.at_ hlt
        obtain ⟨z1, hz1⟩ : ∃ z, jO xs k = z := ⟨_, rfl⟩
        obtain ⟨z2, hz2⟩ : ∃ z, jA xs k = z := ⟨_, rfl⟩
        obtain ⟨y1, hy1⟩ : ∃ z, jO ys k = z := ⟨_, rfl⟩
        obtain ⟨y2, hy2⟩ : ∃ z, jA ys k = z := ⟨_, rfl⟩
        rw [hz1] at c0
        rw [hz2] at c1
        rw [hy1] at d0
        rw [hy2] at d1
        have hz : ith xs k = (z1, z2) := by rw [← hz1, ← hz2]; rfl
        have hy : ith ys k = (y1, y2) := by rw [← hy1, ← hy2]; rfl
        have hN := neq_tim z1 z2 y1 y2
        have hG := guard_tim .neq
        by_cases he : (z1, z2) = (y1, y2)
        · have e1 : z1 = y1 := congrArg Prod.fst he
          have e2 : z2 = y2 := congrArg Prod.snd he
          have hall2 : Hid (∀ j, j < k + 1 → ith xs j = ith ys j) := Lib.hid fun j hj => by
            by_cases e : j = k
            · subst e; rw [hz, hy, he]
            · exact hall.out j (by omega)
          subst e1 e2
          simp only [beq_self_eq_true, Bool.and_self, Bool.not_true] at hN
          clear he hz hy hz1 hz2 hy1 hy2
          go_wp2
          go_quiet (fail)
          go_wp2
          go_roundw
          case rel => exact ⟨k + 1, by omega, by go_num, ⟨_, rfl⟩, hall2⟩
          case measure => simp [intOf]; omega
        · have hs : (z1 == y1 && z2 == y2) = false := by
            by_cases e1 : z1 = y1
            · by_cases e2 : z2 = y2
              · exact absurd (by rw [e1, e2]) he
              · simp [e2]
            · simp [e1]
          rw [hs] at hN
          simp only [Bool.not_false] at hN
          rw [sameT_at (a := xs) (b := ys) k (by rw [hz, hy]; exact he)]
          clear he hs hz hy hz1 hz2 hy1 hy2
          go_wp2
          go_quiet (fail)
          go_wp2
          go_ret
          exact ⟨rfl, drewN_two w d nq⟩
      · obtain rfl : n = k := by omega
        have HF := Lib.hid (sameT_all LX.out LY.out hall.out)
        go_wp2
        go_ret
        exact ⟨ret_bool HF.out.symm, d, rfl⟩
  · rw [sameT_len (by rw [LX.out, LY.out]; exact hn)]
    have hne : ((n : Int) != (n' : Int)) = true := by simp; omega
    go_enter Try.func18, Try.ntmps18
    go_wp2
    go_ret
    exact ⟨rfl, 0, rfl⟩

end Go.Proofs.Ytjamoafihmcmeaa

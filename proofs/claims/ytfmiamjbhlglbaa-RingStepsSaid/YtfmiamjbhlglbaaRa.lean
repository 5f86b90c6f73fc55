/-
  Small contracts of the document's layer 7: counts, slots, hands at another access, whether a hand, and a deque, may be; the document's cells with a number at a place.
-/
import Derived.Test.YtfmiamjbhlglbaaRows
import Derived.Test.YtfmiamjbhlglbaaRgR
import Derived.Test.YtfmiamjbhlglbaaKit
import Derived.Test.YtfmiamjbhlglbaaCalmT
import Derived.Deep.QuietTactic
import Derived.BigQuiet
namespace Go.Proofs.Ytfmiamjbhlglbaa
open Go.RowKit

/-- A hand as a value. -/
def hv (h : Hd) : Value := .agg #[.int .i64 h.kind, .int .i64 h.pc, .int .i64 h.v, .int .i64 h.t, .int .i64 h.b, .bool h.won, .int .i64 h.state]
def hc (h : Hd) : Array Value := #[.int .i64 h.kind, .int .i64 h.pc, .int .i64 h.v, .int .i64 h.t, .int .i64 h.b, .bool h.won, .int .i64 h.state]

theorem count_any (n least : Int) (w : World) : Calls Try.prog 31 #[.int .i64 n, .int .i64 least] w (RetB (.bool (decide (cntOk n least))) w) := by
  by_cases h1 : least ≤ n
  · by_cases h2 : n ≤ 1099511627776
    · have h : decide (cntOk n least) = true := decide_eq_true ⟨h1, h2⟩
      rw [h]
      go_enter Try.func31, Try.ntmps31
      go_wp2
      go_ret
      exact ⟨by simp, Below.refl _ _⟩
    · have h : decide (cntOk n least) = false := decide_eq_false (fun q => h2 q.2)
      rw [h]
      go_enter Try.func31, Try.ntmps31
      go_wp2
      go_ret
      exact ⟨by simp, Below.refl _ _⟩
  · have h : decide (cntOk n least) = false := decide_eq_false (fun q => h1 q.1)
    rw [h]
    go_enter Try.func31, Try.ntmps31
    go_wp2
    go_ret
    exact ⟨by simp, Below.refl _ _⟩

theorem Bk.c7 {w : World} {g : Nat} {t : TypeId} {x0 x1 x2 x3 x4 x5 x6 : Value} (h : Bk w g t #[x0, x1, x2, x3, x4, x5, x6]) :
    w.cell? ⟨g, 0, none⟩ = some x0 ∧ w.cell? ⟨g, 1, none⟩ = some x1 ∧ w.cell? ⟨g, 2, none⟩ = some x2 ∧ w.cell? ⟨g, 3, none⟩ = some x3 ∧ w.cell? ⟨g, 4, none⟩ = some x4 ∧ w.cell? ⟨g, 5, none⟩ = some x5 ∧ w.cell? ⟨g, 6, none⟩ = some x6 :=
  ⟨h.cell 0, h.cell 1, h.cell 2, h.cell 3, h.cell 4, h.cell 5, h.cell 6⟩

theorem Bk.f7 {w : World} {g : Nat} {t : TypeId} {cs : Array Value} (h : Bk w g t cs) : w.frozen? ⟨g, 0, none⟩ = false ∧ w.frozen? ⟨g, 1, none⟩ = false ∧ w.frozen? ⟨g, 2, none⟩ = false ∧ w.frozen? ⟨g, 3, none⟩ = false ∧ w.frozen? ⟨g, 4, none⟩ = false ∧ w.frozen? ⟨g, 5, none⟩ = false ∧ w.frozen? ⟨g, 6, none⟩ = false :=
  ⟨h.frozen 0, h.frozen 1, h.frozen 2, h.frozen 3, h.frozen 4, h.frozen 5, h.frozen 6⟩
/-- A hand is stored whole. -/
def set7 (W : World) (g : Nat) (v0 v1 v2 v3 v4 v5 v6 : Value) : World := ((((((W.setCell ⟨g, 0, none⟩ v0).setCell ⟨g, 1, none⟩ v1).setCell ⟨g, 2, none⟩ v2).setCell ⟨g, 3, none⟩ v3).setCell ⟨g, 4, none⟩ v4).setCell ⟨g, 5, none⟩ v5).setCell ⟨g, 6, none⟩ v6
theorem bk_set7 {W : World} {g : Nat} {t : TypeId} {x0 x1 x2 x3 x4 x5 x6 : Value} (h : Bk W g t #[x0, x1, x2, x3, x4, x5, x6]) (v0 v1 v2 v3 v4 v5 v6 : Value) : Bk (set7 W g v0 v1 v2 v3 v4 v5 v6) g t #[v0, v1, v2, v3, v4, v5, v6] := by
  have a0 : Bk (_) g t #[v0, x1, x2, x3, x4, x5, x6] := h.set_ 0 v0
  have a1 : Bk (_) g t #[v0, v1, x2, x3, x4, x5, x6] := a0.set_ 1 v1
  have a2 : Bk (_) g t #[v0, v1, v2, x3, x4, x5, x6] := a1.set_ 2 v2
  have a3 : Bk (_) g t #[v0, v1, v2, v3, x4, x5, x6] := a2.set_ 3 v3
  have a4 : Bk (_) g t #[v0, v1, v2, v3, v4, x5, x6] := a3.set_ 4 v4
  have a5 : Bk (_) g t #[v0, v1, v2, v3, v4, v5, x6] := a4.set_ 5 v5
  have a6 : Bk (_) g t #[v0, v1, v2, v3, v4, v5, v6] := a5.set_ 6 v6
  exact a6
theorem below_set7 {w W : World} (h : Below w.heap.size w W) {g : Nat} (hg : w.heap.size ≤ g) (v0 v1 v2 v3 v4 v5 v6 : Value) : Below w.heap.size w (set7 W g v0 v1 v2 v3 v4 v5 v6) :=
  ((((((h.setCell (p := ⟨g, 0, none⟩) hg v0).setCell (p := ⟨g, 1, none⟩) hg v1).setCell (p := ⟨g, 2, none⟩) hg v2).setCell (p := ⟨g, 3, none⟩) hg v3).setCell (p := ⟨g, 4, none⟩) hg v4).setCell (p := ⟨g, 5, none⟩) hg v5).setCell (p := ⟨g, 6, none⟩) hg v6

theorem two_boxes (w : World) (cs cs' : Array Value) (t t' : TypeId) : Below w.heap.size w ((w.alloc (.cells cs t)).alloc (.cells cs' t')) := ((Below.refl w.heap.size w).alloc (Nat.le_refl _) _).alloc (by simp) _
theorem slot_any (base cap : Nat) (n : Int) (w : World) (hb : base ≤ 70000) (h1 : 1 ≤ cap) (h2 : cap ≤ 1024) (hn : 0 ≤ n) :
    Calls Try.prog 32 #[.agg #[.int .i64 base, .int .i64 cap], .int .i64 n] w (RetB (.int .i64 (slI base cap n)) w) := by
  have B0 := Lib.hid ((Below.refl w.heap.size w).alloc (Nat.le_refl _) (.cells #[.int .i64 base, .int .i64 cap] 25))
  have k0 := Bk.new w 25 #[.int .i64 base, .int .i64 cap]
  have c0 : _ = some (Value.int .i64 base) := k0.cell 0
  have c1 : _ = some (Value.int .i64 cap) := k0.cell 1
  have hz : (cap : Int) ≠ 0 := by omega
  have hlt : n.tmod (cap : Int) < cap := Int.tmod_lt_of_pos _ (by omega)
  have h0 : 0 ≤ n.tmod (cap : Int) := Int.tmod_nonneg _ hn
  obtain ⟨r, hr⟩ : ∃ r, n.tmod (cap : Int) = r := ⟨_, rfl⟩
  rw [hr] at hlt h0
  have HS : Hid ((base : Int) + 2 + r = (slI base cap n : Int)) := Lib.hid (by unfold slI; rw [hr]; omega)
  clear k0
  go_enter Try.func32, Try.ntmps32
  go_wp2
  go_quiet (fail)
  go_wp2
  go_ret
  exact RetB.of (ret_i64 HS.out) (below_drewN B0.out _)

theorem rcheck1_any (A : Option Addr) (n c : Nat) (w : World) (hn : n ≤ 9223372036854775807) : Calls Try.prog 34 #[.slice A n c] w (RetB (.int .i64 (if 65536 < n then 1 else 0)) w) := by
  by_cases h : 65536 < n
  · rw [if_pos h]
    go_enter Try.func34, Try.ntmps34
    go_wp2
    go_ret
    exact ⟨rfl, Below.refl _ _⟩
  · rw [if_neg h]
    go_enter Try.func34, Try.ntmps34
    go_wp2
    go_ret
    exact ⟨rfl, Below.refl _ _⟩

/-- A deque may be. -/
def MayQ (n : Nat) (base cap : Int) : Prop := n ≤ 65536 ∧ 1 ≤ cap ∧ cap ≤ 1024 ∧ 0 ≤ base ∧ base ≤ n ∧ cap + 2 ≤ n - base
instance (n : Nat) (base cap : Int) : Decidable (MayQ n base cap) := by unfold MayQ; exact inferInstance

theorem rcheckq_any (A : Option Addr) (n c : Nat) (base cap : Int) (w : World) (hn : n ≤ 9223372036854775807) :
    Calls Try.prog 18 #[.slice A n c, .agg #[.int .i64 base, .int .i64 cap]] w (RetB (.int .i64 (if MayQ n base cap then 0 else 1)) w) := by
  have hb0 := (Below.refl w.heap.size w).alloc (Nat.le_refl _) (.cells #[.int .i64 base, .int .i64 cap] 25)
  have B0 := Lib.hid hb0
  have k0 := Lib.hid (Bk.new w 25 #[.int .i64 base, .int .i64 cap])
  clear hb0
  have hw : 65536 < n ∨ (¬ 65536 < n ∧ cap < 1) ∨ (¬ 65536 < n ∧ ¬ cap < 1 ∧ 1024 < cap) ∨ (¬ 65536 < n ∧ ¬ cap < 1 ∧ ¬ 1024 < cap ∧ base < 0) ∨ (¬ 65536 < n ∧ ¬ cap < 1 ∧ ¬ 1024 < cap ∧ ¬ base < 0 ∧ (n : Int) < base) ∨
      (¬ 65536 < n ∧ ¬ cap < 1 ∧ ¬ 1024 < cap ∧ ¬ base < 0 ∧ ¬ (n : Int) < base ∧ (n : Int) - base < cap + 2) ∨ (¬ 65536 < n ∧ ¬ cap < 1 ∧ ¬ 1024 < cap ∧ ¬ base < 0 ∧ ¬ (n : Int) < base ∧ ¬ (n : Int) - base < cap + 2) := by omega
  rcases hw with g0 | ⟨g0, g1⟩ | ⟨g0, g1, g2⟩ | ⟨g0, g1, g2, g3⟩ | ⟨g0, g1, g2, g3, g4⟩ | ⟨g0, g1, g2, g3, g4, g5⟩ | ⟨g0, g1, g2, g3, g4, g5⟩
  · rw [if_neg (by unfold MayQ; omega)]
    have e : (if 65536 < n then (1 : Int) else 0) = 1 := if_pos g0
    have HE := Lib.hid e
    clear e
    go_enter Try.func18, Try.ntmps18
    go_wp2_with fail
    refine (rcheck1_any A n c _ hn).mono ?_
    rw [HE.out]
    rintro e w1 ⟨rfl, hb1⟩
    have B1 := Lib.hid (below3 B0.out hb1)
    clear hb1
    go_wp2
    go_ret
    exact ⟨rfl, B1.out⟩
  all_goals
    have e : (if 65536 < n then (1 : Int) else 0) = 0 := if_neg g0
    have HE := Lib.hid e
    clear e
  case' inr.inr.inr.inr.inr.inr => rw [if_pos (by unfold MayQ; omega)]
  case' inr.inl => rw [if_neg (by unfold MayQ; omega)]
  case' inr.inr.inl => rw [if_neg (by unfold MayQ; omega)]
  case' inr.inr.inr.inl => rw [if_neg (by unfold MayQ; omega)]
  case' inr.inr.inr.inr.inl => rw [if_neg (by unfold MayQ; omega)]
  case' inr.inr.inr.inr.inr.inl => rw [if_neg (by unfold MayQ; omega)]
  all_goals
    go_enter Try.func18, Try.ntmps18
    go_wp2_with fail
    refine (rcheck1_any A n c _ hn).mono ?_
    rw [HE.out]
    rintro e w1 ⟨rfl, hb1⟩
    have B1 := Lib.hid (below3 B0.out hb1)
    have k1 := k0.out.below hb1 k0.out.lt
    have c0 : _ = some (Value.int .i64 base) := k1.cell 0
    have c1 : _ = some (Value.int .i64 cap) := k1.cell 1
    clear hb1 k1
    go_wp2
    go_ret
    exact ⟨rfl, B1.out⟩

theorem infoI : (Try.prog.info? 2).map (fun i => (i.zero, i.size, i.bytes)) = some (some (.int .i64 0), 1, 8) := by kernel_rfl

end Go.Proofs.Ytfmiamjbhlglbaa

/-
  The contracts of the program's Check and Step (layer 7).
-/
import Derived.Test.YtfmiamjbhlglbaaNy
namespace Go.Proofs.Ytfmiamjbhlglbaa
open Go.RowKit Go.Maps

theorem tblF_none {k p : Int} (h : ¬ (0 ≤ p ∧ p < pcsF k)) : tblF k p = none := by
  unfold tblF opOf
  rw [if_neg (by rintro ⟨rfl, rfl⟩; exact h (by decide))]
  rw [if_neg (by rintro ⟨rfl, rfl⟩; exact h (by decide))]
  rw [if_neg (by rintro ⟨rfl, rfl⟩; exact h (by decide))]
  rw [if_neg (by rintro ⟨rfl, rfl⟩; exact h (by decide))]
  rw [if_neg (by rintro ⟨rfl, rfl⟩; exact h (by decide))]
  rw [if_neg (by rintro ⟨rfl, rfl⟩; exact h (by decide))]
  rw [if_neg (by rintro ⟨rfl, rfl⟩; exact h (by decide))]
  rw [if_neg (by rintro ⟨rfl, rfl⟩; exact h (by decide))]
  rw [if_neg (by rintro ⟨rfl, rfl⟩; exact h (by decide))]
  rw [if_neg (by rintro ⟨rfl, rfl⟩; exact h (by decide))]
  rw [if_neg (by rintro ⟨rfl, rfl⟩; exact h (by decide))]
  rw [if_neg (by rintro ⟨rfl, rfl⟩; exact h (by decide))]
  rw [if_neg (by rintro ⟨rfl, rfl⟩; exact h (by decide))]
  rw [if_neg (by rintro ⟨rfl, rfl⟩; exact h (by decide))]
  rw [if_neg (by rintro ⟨rfl, rfl⟩; exact h (by decide))]
  rfl
theorem tblF_some {k p : Int} (h : 0 ≤ p ∧ p < pcsF k) : lkB (tblF k p) = true := by
  have hk := pcs_kind (Int.lt_of_le_of_lt h.1 h.2)
  obtain ⟨m1, m2⟩ := h
  rcases hk with rfl | rfl | rfl
  · rw [pcs1] at m2
    have hp : p = 0 ∨ p = 1 ∨ p = 2 ∨ p = 3 := by omega
    rcases hp with rfl | rfl | rfl | rfl <;> rfl
  · rw [pcs2] at m2
    have hp : p = 0 ∨ p = 1 ∨ p = 2 ∨ p = 3 ∨ p = 4 ∨ p = 5 ∨ p = 6 := by omega
    rcases hp with rfl | rfl | rfl | rfl | rfl | rfl | rfl <;> rfl
  · rw [pcs3] at m2
    have hp : p = 0 ∨ p = 1 ∨ p = 2 ∨ p = 3 := by omega
    rcases hp with rfl | rfl | rfl | rfl <;> rfl
theorem next_any (h : Hd) (w : World) (fk : Fit h.kind) (fp : Fit h.pc) : Calls Try.prog 27 #[hv h] w (if MayH h then NextOf (lkV (tblF h.kind h.pc)) 0 w else NextOf .nilFunc 1 w) := by
  by_cases g0 : 0 ≤ h.pc ∧ h.pc < pcsF h.kind
  · have h0 := tblF_some g0
    by_cases g1 : cntOk h.t (-1)
    · by_cases g2 : cntOk h.b (-1)
      · by_cases g3 : 0 ≤ h.state
        · by_cases g4 : h.state ≤ 4
          · rw [if_pos ⟨g0.1, g0.2, g1, g2, g3, g4⟩]
            exact next_5 h w fk fp _ rfl h0 (decide_eq_true g1) (decide_eq_true g2) g3 g4
          · rw [if_neg (fun q => g4 q.2.2.2.2.2)]
            exact next_4 h w fk fp _ rfl h0 (decide_eq_true g1) (decide_eq_true g2) g3 g4
        · rw [if_neg (fun q => g3 q.2.2.2.2.1)]
          exact next_3 h w fk fp _ rfl h0 (decide_eq_true g1) (decide_eq_true g2) g3
      · rw [if_neg (fun q => g2 q.2.2.2.1)]
        exact next_2 h w fk fp _ rfl h0 (decide_eq_true g1) (decide_eq_false g2)
    · rw [if_neg (fun q => g1 q.2.2.1)]
      exact next_1 h w fk fp _ rfl h0 (decide_eq_false g1)
  · rw [if_neg (fun q => g0 ⟨q.1, q.2.1⟩)]
    exact next_0 h w fk fp none (tblF_none g0) rfl

theorem checkq_any (A : Option Addr) (n c : Nat) (base cap : Int) (w : World) (hn : n ≤ 9223372036854775807) (fb : Fit base) (fc : Fit cap) :
    Calls Try.prog 17 #[.slice A n c, .agg #[.int .i64 base, .int .i64 cap]] w (RetB (.int .i64 (if MayQ n base cap then 0 else 1)) w) := by
  have hb0 := (Below.refl w.heap.size w).alloc (Nat.le_refl _) (.cells #[.int .i64 base, .int .i64 cap] 25)
  have B0 := Lib.hid hb0
  have k0 := Lib.hid (Bk.new w 25 #[.int .i64 base, .int .i64 cap])
  clear hb0
  unfold Fit at fb fc
  have hw : 65536 < n ∨ (¬ 65536 < n ∧ cap < 1) ∨ (¬ 65536 < n ∧ ¬ cap < 1 ∧ 1024 < cap) ∨ (¬ 65536 < n ∧ ¬ cap < 1 ∧ ¬ 1024 < cap ∧ base < 0) ∨
      (¬ 65536 < n ∧ ¬ cap < 1 ∧ ¬ 1024 < cap ∧ ¬ base < 0 ∧ (n : Int) - 2 - cap < base) ∨ (¬ 65536 < n ∧ ¬ cap < 1 ∧ ¬ 1024 < cap ∧ ¬ base < 0 ∧ ¬ (n : Int) - 2 - cap < base) := by omega
  rcases hw with g0 | ⟨g0, g1⟩ | ⟨g0, g1, g2⟩ | ⟨g0, g1, g2, g3⟩ | ⟨g0, g1, g2, g3, g4⟩ | ⟨g0, g1, g2, g3, g4⟩
  · rw [if_neg (by unfold MayQ; omega)]
    have e : (if 65536 < n then (1 : Int) else 0) = 1 := if_pos g0
    have HE := Lib.hid e
    clear e
    go_enter Try.func17, Try.ntmps17
    go_wp2_with fail
    refine (ccheck_any A n c _ hn).mono ?_
    rw [HE.out]
    rintro e w1 ⟨rfl, hb1⟩
    have B1 := Lib.hid (below3 B0.out hb1)
    clear hb1
    go_wp2
    go_ret
    exact ⟨rfl, B1.out⟩
  all_goals
    have e : (if 65536 < n then (1 : Int) else 0) = 0 := if_neg g0
    have HE := Lib.hid e
    clear e
  case' inr.inr.inr.inr.inr => rw [if_pos (by unfold MayQ; omega)]
  case' inr.inl => rw [if_neg (by unfold MayQ; omega)]
  case' inr.inr.inl => rw [if_neg (by unfold MayQ; omega)]
  case' inr.inr.inr.inl => rw [if_neg (by unfold MayQ; omega)]
  case' inr.inr.inr.inr.inl => rw [if_neg (by unfold MayQ; omega)]
  all_goals
    go_enter Try.func17, Try.ntmps17
    go_wp2_with fail
    refine (ccheck_any A n c _ hn).mono ?_
    rw [HE.out]
    rintro e w1 ⟨rfl, hb1⟩
    have B1 := Lib.hid (below3 B0.out hb1)
    have k1 := k0.out.below hb1 k0.out.lt
    have c0 : _ = some (Value.int .i64 base) := k1.cell 0
    have c1 : _ = some (Value.int .i64 cap) := k1.cell 1
    clear hb1 k1
    go_wp2
    go_ret
    exact ⟨rfl, B1.out⟩

/-- What Step comes to: the error's number, cells, a hand. -/
def stepF (ms : List Int) (base cap : Int) (h : Hd) : Int × List Int × Hd :=
  if MayH h ∧ MayQ ms.length base cap then
    if h.state = 0 then
      match accF ms base.toNat cap.toNat h with
      | none => (9, [], noH)
      | some r => (0, r.1, r.2)
    else (9, [], noH)
  else (1, [], noH)
def StepOf (r : Int × List Int × Hd) (w : World) (e : Ending) (w' : World) : Prop :=
  ∃ A c, e = .returned (.tuple #[.slice A r.2.1.length c, hv r.2.2, .int .i64 r.1]) ∧ OwnI 2 w' w.heap.size A c r.2.1 ∧ Below w.heap.size w w'
/-- Numbers of a hand as it comes in. -/
structure HdF (h : Hd) : Prop where
  k : Fit h.kind
  p : Fit h.pc
  v : Fit h.v
  s : Fit h.state

end Go.Proofs.Ytfmiamjbhlglbaa

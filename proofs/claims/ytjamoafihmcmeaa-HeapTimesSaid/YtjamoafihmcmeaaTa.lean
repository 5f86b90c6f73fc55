/-
  The document's layer 8: one timer ahead of another one; whether one may be.
-/
import Derived.Test.YtjamoafihmcmeaaRows
import Derived.Test.YtjamoafihmcmeaaTim
import Derived.Test.YtjamoafihmcmeaaKit
import Derived.Test.YtjamoafihmcmeaaCalmT
namespace Go.Proofs.Ytjamoafihmcmeaa
open Go.RowKit

def lessT (a b : Tm) : Prop := a.1 < b.1 ∨ (a.1 = b.1 ∧ a.2 < b.2)
instance (a b : Tm) : Decidable (lessT a b) := by unfold lessT; exact inferInstance
def mayT (t : Tm) : Prop := 0 ≤ t.1 ∧ t.1 ≤ 1125899906842624 ∧ 0 ≤ t.2
instance (t : Tm) : Decidable (mayT t) := by unfold mayT; exact inferInstance

theorem two_boxes (w : World) (cs cs' : Array Value) (t t' : TypeId) : Below w.heap.size w ((w.alloc (.cells cs t)).alloc (.cells cs' t')) := ((Below.refl w.heap.size w).alloc (Nat.le_refl _) _).alloc (by simp) _
theorem boxes2 (w : World) (cs cs' : Array Value) (t t' : TypeId) : Bk ((w.alloc (.cells cs t)).alloc (.cells cs' t')) w.heap.size t cs ∧ Bk ((w.alloc (.cells cs t)).alloc (.cells cs' t')) (w.heap.size + 1) t' cs' := by
  have h2 := Bk.new (w.alloc (.cells cs t)) t' cs'
  rw [size_alloc] at h2
  exact ⟨(Bk.new w _ _).alloc _, h2⟩
theorem infoT : (Try.prog.info? 24).map (fun i => (i.zero, i.size, i.bytes)) = some (some (.agg #[.int .i64 0, .int .i64 0]), 2, 16) := by kernel_rfl

theorem less_any (a1 a2 b1 b2 : Int) (w : World) : Calls Try.prog 30 #[.agg #[.int .i64 a1, .int .i64 a2], .agg #[.int .i64 b1, .int .i64 b2]] w (RetB (.bool (decide (lessT (a1, a2) (b1, b2)))) w) := by
  obtain ⟨k0, k1⟩ := boxes2 w #[.int .i64 a1, .int .i64 a2] #[.int .i64 b1, .int .i64 b2] 24 24
  have BL := Lib.hid (two_boxes w #[.int .i64 a1, .int .i64 a2] #[.int .i64 b1, .int .i64 b2] 24 24)
  have c0 : _ = some (Value.int .i64 a1) := k0.cell 0
  have c1 : _ = some (Value.int .i64 a2) := k0.cell 1
  have d0 : _ = some (Value.int .i64 b1) := k1.cell 0
  have d1 : _ = some (Value.int .i64 b2) := k1.cell 1
  clear k0 k1
  have hw : a1 < b1 ∨ (a1 = b1 ∧ a2 < b2) ∨ (a1 = b1 ∧ ¬ a2 < b2) ∨ b1 < a1 := by omega
  rcases hw with h | ⟨h, h2⟩ | ⟨h, h2⟩ | h
  · have e : decide (lessT (a1, a2) (b1, b2)) = true := decide_eq_true (.inl h)
    rw [e]
    have t1 : decide (a1 < b1) = true := decide_eq_true h
    clear e h
    go_enter Try.func30, Try.ntmps30
    go_wp2
    go_ret
    exact ⟨rfl, BL.out⟩
  · have e : decide (lessT (a1, a2) (b1, b2)) = true := decide_eq_true (.inr ⟨h, h2⟩)
    rw [e]
    have t1 : decide (a1 < b1) = false := decide_eq_false (by omega)
    have t2 : (a1 == b1) = true := by simpa using h
    have t3 : decide (a2 < b2) = true := decide_eq_true h2
    clear e h h2
    go_enter Try.func30, Try.ntmps30
    go_wp2
    go_ret
    exact ⟨rfl, BL.out⟩
  · have e : decide (lessT (a1, a2) (b1, b2)) = false := decide_eq_false (by unfold lessT; simp only; omega)
    rw [e]
    have t1 : decide (a1 < b1) = false := decide_eq_false (by omega)
    have t2 : (a1 == b1) = true := by simpa using h
    have t3 : decide (a2 < b2) = false := decide_eq_false h2
    clear e h h2
    go_enter Try.func30, Try.ntmps30
    go_wp2
    go_ret
    exact ⟨rfl, BL.out⟩
  · have e : decide (lessT (a1, a2) (b1, b2)) = false := decide_eq_false (by unfold lessT; simp only; omega)
    rw [e]
    have t1 : decide (a1 < b1) = false := decide_eq_false (by omega)
    have t2 : (a1 == b1) = false := by simp; omega
    clear e h
    go_enter Try.func30, Try.ntmps30
    go_wp2
    go_ret
    exact ⟨rfl, BL.out⟩

theorem mayt_any (a1 a2 : Int) (w : World) : Calls Try.prog 36 #[.agg #[.int .i64 a1, .int .i64 a2]] w (RetB (.bool (decide (mayT (a1, a2)))) w) := by
  have k0 := Bk.new w 24 #[.int .i64 a1, .int .i64 a2]
  have BL := Lib.hid ((Below.refl w.heap.size w).alloc (Nat.le_refl _) (.cells #[.int .i64 a1, .int .i64 a2] 24))
  have c0 : _ = some (Value.int .i64 a1) := k0.cell 0
  have c1 : _ = some (Value.int .i64 a2) := k0.cell 1
  clear k0
  have hw : ¬ 0 ≤ a1 ∨ (0 ≤ a1 ∧ ¬ a1 ≤ 1125899906842624) ∨ (0 ≤ a1 ∧ a1 ≤ 1125899906842624 ∧ ¬ 0 ≤ a2) ∨ (0 ≤ a1 ∧ a1 ≤ 1125899906842624 ∧ 0 ≤ a2) := by omega
  rcases hw with h | ⟨h, h2⟩ | ⟨h, h2, h3⟩ | ⟨h, h2, h3⟩
  case' inr.inr.inr => have e : decide (mayT (a1, a2)) = true := decide_eq_true ⟨h, h2, h3⟩
  case' inl => have e : decide (mayT (a1, a2)) = false := decide_eq_false (fun q => h q.1)
  case' inr.inl => have e : decide (mayT (a1, a2)) = false := decide_eq_false (fun q => h2 q.2.1)
  case' inr.inr.inl => have e : decide (mayT (a1, a2)) = false := decide_eq_false (fun q => h3 q.2.2)
  all_goals
    rw [e]
    clear e
    go_enter Try.func36, Try.ntmps36
    go_wp2
    go_ret
    exact ⟨by simp, BL.out⟩

end Go.Proofs.Ytjamoafihmcmeaa

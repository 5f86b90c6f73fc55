/-
  Layer 8, the program: a timer found by its id, through a closure; a list's clone.
-/
import Derived.Test.YtjamoafihmcmeaaHc
namespace Go.Proofs.Ytjamoafihmcmeaa
open Go.RowKit

def OfAns (id : Int) (w : World) (e : Ending) (w' : World) : Prop :=
  e = .returned (.func (.func 49) #[] #[.pointer (some ⟨w.heap.size, 0, none⟩)]) ∧ w' = w.alloc (.cells #[.int .i64 id] 2)
theorem of_any (id : Int) (w : World) : Calls Try.prog 33 #[.int .i64 id] w (OfAns id w) := by
  go_enter Try.func33, Try.ntmps33
  go_wp2
  go_ret
  exact ⟨rfl, rfl⟩
theorem ofd_any (a1 a2 id : Int) (gb : Nat) (w : World) (hc : w.cell? ⟨gb, 0, none⟩ = some (.int .i64 id)) (hlt : gb < w.heap.size) :
    Calls Try.prog 49 #[.agg #[.int .i64 a1, .int .i64 a2], .pointer (some ⟨gb, 0, none⟩)] w (RetB (.bool (decide (a2 = id))) w) := by
  have k0 := Bk.new w 24 #[.int .i64 a1, .int .i64 a2]
  have hb := (Below.refl w.heap.size w).alloc (Nat.le_refl _) (.cells #[.int .i64 a1, .int .i64 a2] 24)
  have q : _ = some (Value.int .i64 id) := (hb.cell (p := ⟨gb, 0, none⟩) hlt).trans hc
  have c1 : _ = some (Value.int .i64 a2) := k0.cell 1
  have HB := Lib.hid hb
  have HE := Lib.hid (show (a2 == id) = decide (a2 = id) from rfl)
  clear k0 hb hc
  go_enter Try.func49, Try.ntmps49
  go_wp2
  go_ret
  exact ⟨by simp; exact HE.out, HB.out⟩

/-- The place of an id, or -1. -/
def AtI (l : List Tm) (id : Int) (w : World) (e : Ending) (w' : World) : Prop :=
  (∃ j : Nat, e = .returned (.int .i64 (j : Int)) ∧ j < l.length ∧ jA l j = id ∧ Below w.heap.size w w') ∨ (e = .returned (.int .i64 (-1)) ∧ ¬ hasId l id ∧ Below w.heap.size w w')

set_option maxHeartbeats 1000000 in
theorem idx_any (A : Option Addr) (n c : Nat) (l : List Tm) (id : Int) (gb : Nat) (w : World) (hx : Tms w A n c l) (hk : Bk w gb 2 #[.int .i64 id]) :
    Calls Try.prog 40 #[.slice A n c, .func (.func 49) #[] #[.pointer (some ⟨gb, 0, none⟩)]] w (AtI l id w) := by
  have HX := Lib.hid hx
  have LX := Lib.hid hx.1
  have HK := Lib.hid hk
  have hnc := hx.2.1
  clear hx hk
  go_enter Try.func40, Try.ntmps40
  go_wp2_with fail
  go_loopw [8] (fun t wr => ∃ k : Nat, k ≤ n ∧ t = .int .i64 k ∧ Hid (Below w.heap.size w wr ∧ ∀ j, j < k → jA l j ≠ id)) (fun t _ => n - (intOf t).toNat)
  case atStart => exact ⟨0, Nat.zero_le _, rfl, Lib.hid ⟨Below.refl _ _, fun i hi => by omega⟩⟩
  case round =>
    rename World => wr
    obtain ⟨k, hk, rfl, OK⟩ := hrel
    by_cases hkn : k < n
    · obtain ⟨bL, oL, rfl, hbL, c0, c1⟩ := (HX.out.below OK.out.1).at_ hkn
      have hkl : k < l.length := by rw [LX.out]; exact hkn
      obtain ⟨z1, hz1⟩ : ∃ z, jO l k = z := ⟨_, rfl⟩
      obtain ⟨z2, hz2⟩ : ∃ z, jA l k = z := ⟨_, rfl⟩
      rw [hz1] at c0
      rw [hz2] at c1
      have HZ2 := Lib.hid hz2
      have kb := HK.out.below OK.out.1 HK.out.lt
      have HC := Lib.hid (ofd_any z1 z2 id gb wr (kb.cell 0) kb.lt)
      clear hz1 hz2 kb
      go_wp2_with fail
      refine HC.out.mono ?_
      by_cases he : z2 = id
      · rw [decide_eq_true he]
        rintro e w1 ⟨rfl, b1⟩
        have HH : Hid (AtI l id w (.returned (.int .i64 (k : Int))) w1) := Lib.hid (.inl ⟨k, rfl, hkl, by rw [HZ2.out]; exact he, below3 OK.out.1 b1⟩)
        clear he b1
        go_wp2_with fail
        go_ret
        exact HH.out
      · rw [decide_eq_false he]
        rintro e w1 ⟨rfl, b1⟩
        have OK2 : Hid (Below w.heap.size w w1 ∧ ∀ j, j < k + 1 → jA l j ≠ id) := Lib.hid ⟨below3 OK.out.1 b1, fun i hi => by
          by_cases e : i = k
          · subst e; rw [HZ2.out]; exact he
          · exact OK.out.2 i (by omega)⟩
        clear he OK b1
        go_wp2_with fail
        go_roundw
        case rel => exact ⟨k + 1, by omega, by go_num, OK2⟩
        case measure => simp [intOf]; omega
    · obtain rfl : n = k := by omega
      go_wp2_with fail
      go_ret
      exact .inr ⟨rfl, fun ⟨j, hj, e⟩ => OK.out.2 j (by have := LX.out; omega) e, OK.out.1⟩

theorem has_any (A : Option Addr) (n c : Nat) (l : List Tm) (id : Int) (gb : Nat) (w : World) (hx : Tms w A n c l) (hk : Bk w gb 2 #[.int .i64 id]) :
    Calls Try.prog 32 #[.slice A n c, .func (.func 49) #[] #[.pointer (some ⟨gb, 0, none⟩)]] w (RetB (.bool (decide (hasId l id))) w) := by
  have HI := Lib.hid (idx_any A n c l id gb w hx hk)
  clear hx hk
  go_enter Try.func32, Try.ntmps32
  go_wp2_with fail
  refine HI.out.mono ?_
  rintro e w1 (⟨j, rfl, hj, he, b⟩ | ⟨rfl, hn, b⟩)
  · have HH := Lib.hid (decide_eq_true (show hasId l id from ⟨j, hj, he⟩))
    have B := Lib.hid b
    clear hj he b
    go_wp2_with fail
    go_ret
    exact ⟨by rw [HH.out]; rfl, B.out⟩
  · have HH := Lib.hid (decide_eq_false hn)
    have B := Lib.hid b
    clear hn b
    go_wp2_with fail
    go_ret
    exact ⟨by rw [HH.out]; rfl, B.out⟩

theorem OwnT.made (E : TypeId) (w : World) : OwnT E (w.alloc (.cells #[] E)) w.heap.size (some ⟨w.heap.size, 0, none⟩) 0 [] :=
  ⟨by simp, by simp, World.ownsRow_made w #[] 0 (Nat.le_refl _) (by unfold maxLen; omega) (by simp)⟩
theorem below_grown1 {w w' : World} {t : TypeId} (h : (w.alloc (.cells #[] t)).grownBy w' (Value.slice (some ⟨w.heap.size, 0, none⟩) 0 0).ownBlock) : Below w.heap.size w w' :=
  ((Below.refl w.heap.size w).alloc (Nat.le_refl _) _).grown h (by simp) (by intro k hk; simp [Value.ownBlock] at hk; omega)
theorem Tms.alloc {w : World} {A : Option Addr} {n c : Nat} {p : List Tm} (h : Tms w A n c p) (o : Obj) : Tms (w.alloc o) A n c p := h.below ((Below.refl _ _).alloc (Nat.le_refl _) o)

theorem clone_any (A : Option Addr) (n c : Nat) (l : List Tm) (w : World) (hx : Tms w A n c l) (hn : n ≤ 1000) :
    Calls Try.prog 34 #[.slice A n c] w (NewT l w) := by
  have q : ∀ (w : World) (a : Option Addr) (n c n' c' : Nat), (binOp .eql 22 (.slice a n c) (.slice none n' c')).run Try.prog w = .ok (.bool a.isNone) w := fun w a n c n' c' => Lib.run_eql_slice_nil w _ _ a n c n' c' Try.underlying22
  have HX := Lib.hid hx
  cases A with
  | none =>
    have h0 : n = 0 := by
      rcases Nat.eq_zero_or_pos n with h | h
      · exact h
      · obtain ⟨b, o, e, _⟩ := hx.2.2.2 h
        cases e
    have HG : Hid (l = []) := Lib.hid (List.eq_nil_of_length_eq_zero (by rw [hx.1]; exact h0))
    clear hx
    subst h0
    go_enter Try.func34, Try.ntmps34
    go_wp2
    go_ret
    have := HG.out
    subst this
    exact ⟨none, 0, rfl, OwnT.nil_ _ _ _, Below.refl _ _⟩
  | some a =>
    clear hx
    go_enter Try.func34, Try.ntmps34
    go_wp2_with (at_builtin; refine wpList_append_tms _ rfl _ _ 22 rfl 24 _ rfl Try.underlying22 infoT w.heap.size (some ⟨w.heap.size, 0, none⟩) 0 [] 0 rfl rfl (OwnT.made _ _) (some a) n c l rfl (HX.out.alloc _) (by simp; omega) (by simp) ?_; intro A' c' w' ho hg; rw [List.nil_append] at ho ⊢; have HO := Lib.hid ho; have HB := Lib.hid (below_grown1 hg); clear ho hg)
    go_ret
    exact ⟨A', c', rfl, HO.out, HB.out⟩

end Go.Proofs.Ytjamoafihmcmeaa

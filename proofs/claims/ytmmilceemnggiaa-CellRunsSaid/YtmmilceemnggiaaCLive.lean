/-
  The chapter's example, which each law of layer 1 plays first: it comes out true, and nothing that was there has changed.
-/
import Derived.Test.YtmmilceemnggiaaCNew
namespace Go.Proofs.Ytmmilceemnggiaa
open Go.RowKit

theorem new_two (w : World) : Calls Try.prog 11 #[.int .i64 2] w (NewI2 [0, 0] 0 w) := new_ok 2 w (by omega)

theorem doo_live1 : doo [0, 0] 3 0 5 0 = ([5, 0], 0, 0) := by
  rw [doo_acc (by simp)]
  exact acc_add_yes (zs := [0, 0]) (j := 0) (a := 5) (b := 0) (by simp) (by unfold Fit nth; simp)

theorem doo_live2 : doo [5, 0] 3 0 5 0 = ([10, 0], 5, 0) := by
  rw [doo_acc (by simp)]
  exact acc_add_yes (zs := [5, 0]) (j := 0) (a := 5) (b := 0) (by simp) (by unfold Fit nth; simp)

theorem f5 : Fit 5 := by unfold Fit; omega

/-- True, and new memory alone. -/
def TrueAns (w : World) (e : Ending) (w' : World) : Prop := e = .returned (.bool true) ∧ Below w.heap.size w w'

set_option maxHeartbeats 400000 in
theorem live_any (w : World) : Calls Try.prog 8 #[] w (TrueAns w) := by
  go_enter Try.func8, Try.ntmps8
  go_wp2_with fail
  refine (new_two _).mono ?_
  rintro e w1 ⟨A1, c1, rfl, ho1, hb1⟩
  have HO1 := Lib.hid ho1
  have HB1 := Lib.hid hb1
  clear ho1 hb1
  simp only [List.length_cons, List.length_nil, Nat.zero_add, Nat.reduceAdd]
  go_wp2_with fail
  refine (add_any _ _ _ [0, 0] _ _ _ HO1.out.ints f5).mono ?_
  rw [doo_live1]
  rintro e w2 ⟨A2, c2, rfl, ho2, hb2⟩
  have HO2 := Lib.hid ho2
  have HB2 := Lib.hid hb2
  clear ho2 hb2
  simp only [List.length_cons, List.length_nil, Nat.zero_add, Nat.reduceAdd]
  go_wp2_with fail
  refine (add_any _ _ _ [5, 0] _ _ _ HO2.out.ints f5).mono ?_
  rw [doo_live2]
  rintro e w3 ⟨A3, c3, rfl, ho3, hb3⟩
  obtain ⟨g, rfl, _, hlt, _⟩ := ho3.form (by simp)
  have hc0 := (ho3.at_ (j := 0) (by simp)).1
  have hc1 := (ho3.at_ (j := 1) (by simp)).1
  simp only [nth, List.getD_cons_zero, List.getD_cons_succ] at hc0 hc1
  have HB3 := Lib.hid hb3
  clear ho3 hb3
  simp only [List.length_cons, List.length_nil, Nat.zero_add, Nat.reduceAdd]
  go_wp2
  go_ret
  have h2 := HB2.out
  have h3 := HB3.out
  exact ⟨rfl, (HB1.out.trans (h2.mono HB1.out.size)).trans (h3.mono (Nat.le_trans HB1.out.size h2.size))⟩

end Go.Proofs.Ytmmilceemnggiaa

/-
  The law PickHalves of layer 16, walked.
-/
import Derived.Test.YtljfinfjchkphaaPkf
namespace Go.Proofs.Ytljfinfjchkphaa
open Go.RowKit

set_option maxHeartbeats 4000000 in
theorem pickhalves_any (n : Int) (w : World) (hn : Fit n) :
    Calls Try.prog 6 #[.int .i64 n] w (RetB (.bool true) w) := by
  have HN := Lib.hid hn
  clear hn
  by_cases h : n < 0
  · have HA : Hid (halfPk n = (0, 1)) := Lib.hid (if_pos h)
    have HS : Hid (spillPk n = (0, 1)) := Lib.hid (if_pos h)
    replace h : decide (n < 0) = true := decide_eq_true h
    have BB := Lib.hid (Below.refl w.heap.size w)
    go_enter Try.func6, Try.ntmps6
    go_wp2_with fail
    refine (live16_any _).mono ?_
    try dsimp only
    rintro e U1 ⟨rfl, bU1⟩
    replace BB := Lib.hid (below3 BB.out bU1)
    clear bU1
    go_wp2_with fail
    refine (half_pk n _ HN.out).mono ?_
    rw [HA.out]
    try dsimp only
    rintro e U22 ⟨rfl, bU22⟩
    replace BB := Lib.hid (below3 BB.out bU22)
    clear bU22
    go_wp2_with fail
    refine (spill_pk n _ HN.out).mono ?_
    rw [HS.out]
    try dsimp only
    rintro e U23 ⟨rfl, bU23⟩
    replace BB := Lib.hid (below3 BB.out bU23)
    clear bU23
    go_wp2
    go_ret
    exact ⟨rfl, BB.out⟩
  · obtain ⟨a, ha⟩ : ∃ a, n - n / 2 = a := ⟨_, rfl⟩
    obtain ⟨b, hb⟩ : ∃ b, n / 2 = b := ⟨_, rfl⟩
    have HA : Hid (halfPk n = (a, 0)) := Lib.hid (by unfold halfPk; rw [if_neg h, ha])
    have HS : Hid (spillPk n = (b, 0)) := Lib.hid (by unfold spillPk; rw [if_neg h, hb])
    have t1 : decide (b ≤ a) = true := decide_eq_true (by omega)
    have hw1 : IntKind.i64.wrap (a - b) = a - b := by rw [IntKind.wrap_i64]; have := HN.out; unfold Fit at this; omega
    have t2 : decide (a - b ≤ 1) = true := decide_eq_true (by omega)
    have hw2 : IntKind.i64.wrap (n - a) = b := by rw [IntKind.wrap_i64]; have := HN.out; unfold Fit at this; omega
    replace h : decide (n < 0) = false := decide_eq_false h
    clear ha hb
    have BB := Lib.hid (Below.refl w.heap.size w)
    go_enter Try.func6, Try.ntmps6
    go_wp2_with fail
    refine (live16_any _).mono ?_
    try dsimp only
    rintro e U1 ⟨rfl, bU1⟩
    replace BB := Lib.hid (below3 BB.out bU1)
    clear bU1
    go_wp2_with fail
    refine (half_pk n _ HN.out).mono ?_
    rw [HA.out]
    try dsimp only
    rintro e U22 ⟨rfl, bU22⟩
    replace BB := Lib.hid (below3 BB.out bU22)
    clear bU22
    go_wp2_with fail
    refine (spill_pk n _ HN.out).mono ?_
    rw [HS.out]
    try dsimp only
    rintro e U23 ⟨rfl, bU23⟩
    replace BB := Lib.hid (below3 BB.out bU23)
    clear bU23
    go_wp2
    go_ret
    exact ⟨rfl, BB.out⟩

end Go.Proofs.Ytljfinfjchkphaa

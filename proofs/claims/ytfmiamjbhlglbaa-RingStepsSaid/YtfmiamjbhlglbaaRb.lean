/-
  Small contracts of the document's layer 7 that a step needs: how many accesses a kind has, hands at another access, ended hands.
-/
import Derived.Test.YtfmiamjbhlglbaaRa
namespace Go.Proofs.Ytfmiamjbhlglbaa
open Go.RowKit

theorem pcs_any (k : Int) (w : World) : Calls Try.prog 28 #[.int .i64 k] w (RetB (.int .i64 (pcsF k)) w) := by
  have hk : k = 1 ∨ k = 2 ∨ k = 3 ∨ (k ≠ 1 ∧ k ≠ 2 ∧ k ≠ 3) := by omega
  rcases hk with rfl | rfl | rfl | ⟨h1, h2, h3⟩
  · rw [pcs1]
    go_enter Try.func28, Try.ntmps28
    go_wp2
    go_ret
    exact ⟨rfl, Below.refl _ _⟩
  · rw [pcs2]
    go_enter Try.func28, Try.ntmps28
    go_wp2
    go_ret
    exact ⟨rfl, Below.refl _ _⟩
  · rw [pcs3]
    go_enter Try.func28, Try.ntmps28
    go_wp2
    go_ret
    exact ⟨rfl, Below.refl _ _⟩
  · have e : pcsF k = 0 := by unfold pcsF; rw [if_neg (by omega), if_neg h2]
    rw [e]
    have t1 : (k == 1) = false := by simp [h1]
    have t2 : (k == 2) = false := by simp [h2]
    have t3 : (k == 3) = false := by simp [h3]
    clear e h1 h2 h3
    go_enter Try.func28, Try.ntmps28
    go_wp2
    go_ret
    exact ⟨rfl, Below.refl _ _⟩

theorem at_any (h : Hd) (pc : Int) (w : World) : Calls Try.prog 35 #[hv h, .int .i64 pc] w (RetB (hv { h with pc := pc }) w) := by
  obtain ⟨hk, hp, hv', ht, hb, hw, hs⟩ := h
  unfold hv
  have B0 := Lib.hid (two_boxes w #[.int .i64 hk, .int .i64 pc, .int .i64 hv', .int .i64 ht, .int .i64 hb, .bool hw, .int .i64 hs] #[.int .i64 hk, .int .i64 pc, .int .i64 hv', .int .i64 ht, .int .i64 hb, .bool hw, .int .i64 hs] 27 27)
  go_enter Try.func35, Try.ntmps35
  go_wp2
  exact bodyPost_ret (v := .agg #[.int .i64 hk, .int .i64 pc, .int .i64 hv', .int .i64 ht, .int .i64 hb, .bool hw, .int .i64 hs]) (by simp [results, Try.results35, go_sem]) rfl ⟨rfl, B0.out⟩
theorem ended_any (h : Hd) (st : Int) (w : World) : Calls Try.prog 36 #[hv h, .int .i64 st] w (RetB (hv { h with state := st }) w) := by
  obtain ⟨hk, hp, hv', ht, hb, hw, hs⟩ := h
  unfold hv
  have B0 := Lib.hid (two_boxes w #[.int .i64 hk, .int .i64 hp, .int .i64 hv', .int .i64 ht, .int .i64 hb, .bool hw, .int .i64 st] #[.int .i64 hk, .int .i64 hp, .int .i64 hv', .int .i64 ht, .int .i64 hb, .bool hw, .int .i64 st] 27 27)
  go_enter Try.func36, Try.ntmps36
  go_wp2
  exact bodyPost_ret (v := .agg #[.int .i64 hk, .int .i64 hp, .int .i64 hv', .int .i64 ht, .int .i64 hb, .bool hw, .int .i64 st]) (by simp [results, Try.results36, go_sem]) rfl ⟨rfl, B0.out⟩

end Go.Proofs.Ytfmiamjbhlglbaa

/-
  The contracts of the document's Check and Start (layer 7), and of its cells with a number at a place (layer 1).
-/
import Derived.Test.YtfmiamjbhlglbaaRm
import Derived.Deep.RegionHeld3
namespace Go.Proofs.Ytfmiamjbhlglbaa
open Go.RowKit

theorem start_any (k v : Int) (w : World) : Calls Try.prog 13 #[.int .i64 k, .int .i64 v] w
    (RetB (.tuple #[if 0 < pcsF k then hv (newH k v) else hv noH, .int .i64 (if 0 < pcsF k then 0 else 1)]) w) := by
  have B0 := Lib.hid ((Below.refl w.heap.size w).alloc (Nat.le_refl _) (.cells #[.int .i64 0, .int .i64 0, .int .i64 0, .int .i64 0, .int .i64 0, .bool false, .int .i64 0] 27))
  have k0 := Lib.hid (Bk.new w 27 #[.int .i64 0, .int .i64 0, .int .i64 0, .int .i64 0, .int .i64 0, .bool false, .int .i64 0])
  have hk : (0 < pcsF k ∧ (pcsF k == 0) = false) ∨ (¬ 0 < pcsF k ∧ pcsF k = 0) := by
    unfold pcsF
    split
    · left; simp
    · split
      · left; simp
      · right; simp
  rcases hk with ⟨h1, h2⟩ | ⟨h1, h2⟩
  · rw [if_pos h1, if_pos h1]
    obtain ⟨p, hp⟩ : ∃ p, pcsF k = p := ⟨_, rfl⟩
    rw [hp] at h2
    have HP := Lib.hid hp
    clear h1 hp
    unfold hv newH
    go_enter Try.func13, Try.ntmps13
    go_wp2_with fail
    refine (pcs_any k _).mono ?_
    rw [HP.out]
    rintro e w1 ⟨rfl, hb1⟩
    have k1 := k0.out.below hb1 k0.out.lt
    obtain ⟨q0, q1, q2, q3, q4, q5, q6⟩ := k1.c7
    obtain ⟨f0, f1, f2, f3, f4, f5, f6⟩ := k1.f7
    have B2 := Lib.hid (below_set7 (below3 B0.out hb1) (Nat.le_refl _) (.int .i64 k) (.int .i64 0) (.int .i64 v) (.int .i64 0) (.int .i64 0) (.bool false) (.int .i64 0))
    have K2 := bk_set7 k1 (.int .i64 k) (.int .i64 0) (.int .i64 v) (.int .i64 0) (.int .i64 0) (.bool false) (.int .i64 0)
    have hlt := k1.lt
    clear hb1 k1
    go_wp2
    obtain ⟨r0, r1, r2, r3, r4, r5, r6⟩ := K2.c7
    unfold set7 at r0 r1 r2 r3 r4 r5 r6
    exact bodyPost_ret (v := .tuple #[.agg #[.int .i64 k, .int .i64 0, .int .i64 v, .int .i64 0, .int .i64 0, .bool false, .int .i64 0], .int .i64 0]) (by simp [results, Try.results13, go_sem, *]) rfl ⟨rfl, B2.out⟩
  · rw [if_neg h1, if_neg h1]
    have HP := Lib.hid h2
    clear h1 h2
    unfold hv noH
    go_enter Try.func13, Try.ntmps13
    go_wp2_with fail
    refine (pcs_any k _).mono ?_
    rw [HP.out]
    rintro e w1 ⟨rfl, hb1⟩
    have k1 := k0.out.below hb1 k0.out.lt
    obtain ⟨q0, q1, q2, q3, q4, q5, q6⟩ := k1.c7
    obtain ⟨f0, f1, f2, f3, f4, f5, f6⟩ := k1.f7
    have B2 := Lib.hid (below_set7 (below3 B0.out hb1) (Nat.le_refl _) (.int .i64 0) (.int .i64 0) (.int .i64 0) (.int .i64 0) (.int .i64 0) (.bool false) (.int .i64 0))
    have K2 := bk_set7 k1 (.int .i64 0) (.int .i64 0) (.int .i64 0) (.int .i64 0) (.int .i64 0) (.bool false) (.int .i64 0)
    have hlt := k1.lt
    clear hb1 k1
    go_wp2
    obtain ⟨r0, r1, r2, r3, r4, r5, r6⟩ := K2.c7
    unfold set7 at r0 r1 r2 r3 r4 r5 r6
    exact bodyPost_ret (v := .tuple #[.agg #[.int .i64 0, .int .i64 0, .int .i64 0, .int .i64 0, .int .i64 0, .bool false, .int .i64 0], .int .i64 1]) (by simp [results, Try.results13, go_sem, *]) rfl ⟨rfl, B2.out⟩

/-! ### The document's cells with a number at a place (layer 1) -/
set_option maxHeartbeats 400000 in
theorem with_any (A : Option Addr) (n c : Nat) (zs : List Int) (w : World) (hx : Ints w A n zs) (j : Nat) (hj : j < n) (x : Int) (fx : Fit x) :
    Calls Try.prog 37 #[.slice A n c, .int .i64 j, .int .i64 x] w (NewI 2 (zs.set j x) w) := by
  have HX := Lib.hid hx
  have LX := Lib.hid hx.1
  have bx := hx.2.1
  have FX := Lib.hid fx
  clear hx fx
  go_enter Try.func37, Try.ntmps37
  go_wp2_with (at_builtin; refine wpList_append_ints _ rfl _ _ 23 rfl 2 Try.underlying23 infoI w.heap.size _ _ [] 0 rfl rfl (OwnI.nil_ _ w _) _ _ _ zs rfl HX.out (by simpa using bx) (by simp) ?_; intro A' c' w1 hown hgrow; rw [List.nil_append] at hown ⊢; obtain ⟨g, rfl, hg, hlt, hnc, hcm⟩ := hown.form (by rw [LX.out]; omega); obtain ⟨hc, hf⟩ := hown.at_ (j := j) (by rw [LX.out]; exact hj); have HO := Lib.hid hown; have HG := Lib.hid hgrow; clear hown hgrow; have hj2 : j < zs.length := (by rw [LX.out]; exact hj); unfold maxLen at hcm)
  go_ret
  have e : (Value.slice (some ⟨g, 0, none⟩) zs.length c') = .slice (some ⟨g, 0, none⟩) (zs.set j x).length c' := by rw [List.length_set]
  refine ⟨some ⟨g, 0, none⟩, c', by rw [← e]; rfl, HO.out.set_ j FX.out, ?_⟩
  exact ((Below.refl _ _).grown HG.out (Nat.le_refl _) (by simp [Value.ownBlock])).setCell (by exact hg) _

end Go.Proofs.Ytfmiamjbhlglbaa

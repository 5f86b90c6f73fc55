/-
  The contract of the program's accesses (layer 7): a map of the table, whatever order its entries come in.
-/
import Derived.Test.YtfmiamjbhlglbaaNm
namespace Go.Proofs.Ytfmiamjbhlglbaa
open Go.RowKit Go.Maps

/-- The map of the table. -/
def AcsAns (w : World) (e : Ending) (w' : World) : Prop := ∃ b n, e = .returned (.map (some b)) ∧ GMap w' b n tblF ∧ Below w.heap.size w w'

theorem tblL_all (L : Array Bool) (h : ∀ i, i < 31 → L.getD i false = true) : tblL L = tblF := by
  funext k p
  unfold tblL tblF
  cases ho : opOf k p with
  | none => rfl
  | some z =>
    obtain ⟨j, fn⟩ := z
    simp [h j (opOf_lt ho)]

def acsL0 : Array Bool := ((((((((((((((((Array.replicate 33 false).setIfInBounds 1 true).setIfInBounds 3 true).setIfInBounds 5 true).setIfInBounds 7 true).setIfInBounds 9 true).setIfInBounds 11 true).setIfInBounds 13 true).setIfInBounds 15 true).setIfInBounds 17 true).setIfInBounds 19 true).setIfInBounds 21 true).setIfInBounds 23 true).setIfInBounds 25 true).setIfInBounds 27 true).setIfInBounds 29 true).setIfInBounds 0 true
def acsL : Array Bool := #[true, true, true, true, true, true, true, true, true, true, true, true, true, true, true, true, true, true, true, true, true, true, true, true, true, true, true, true, true, true, true, false, false]

set_option maxRecDepth 100000 in
set_option maxHeartbeats 2000000 in
theorem accesses_any (w : World) : Calls Try.prog 38 #[] w (AcsAns w) := by
  go_enter Try.func38, Try.ntmps38
  go_wp2
  refine wp_region_any (by kernel_rfl) ?_
  change wpAny _ _ _ _ _ _ _ (World.drew _)
  refine any_at (i := 1) (d := 2) (v := .agg #[.int .i64 1, .int .i64 0]) rfl rfl (by kernel_rfl) (by kernel_rfl) (by kernel_rfl) (fun _ _ _ h => h) (.inl ⟨by kernel_rfl, fun U => by go_simp⟩) ?_
  refine any_at (i := 3) (d := 3) (v := .agg #[.int .i64 1, .int .i64 1]) rfl rfl (by kernel_rfl) (by kernel_rfl) (by kernel_rfl) (fun _ _ _ h => h) (.inl ⟨by kernel_rfl, fun U => by go_simp⟩) ?_
  refine any_at (i := 5) (d := 4) (v := .agg #[.int .i64 1, .int .i64 2]) rfl rfl (by kernel_rfl) (by kernel_rfl) (by kernel_rfl) (fun _ _ _ h => h) (.inl ⟨by kernel_rfl, fun U => by go_simp⟩) ?_
  refine any_at (i := 7) (d := 5) (v := .agg #[.int .i64 1, .int .i64 3]) rfl rfl (by kernel_rfl) (by kernel_rfl) (by kernel_rfl) (fun _ _ _ h => h) (.inl ⟨by kernel_rfl, fun U => by go_simp⟩) ?_
  refine any_at (i := 9) (d := 6) (v := .agg #[.int .i64 2, .int .i64 0]) rfl rfl (by kernel_rfl) (by kernel_rfl) (by kernel_rfl) (fun _ _ _ h => h) (.inl ⟨by kernel_rfl, fun U => by go_simp⟩) ?_
  refine any_at (i := 11) (d := 7) (v := .agg #[.int .i64 2, .int .i64 1]) rfl rfl (by kernel_rfl) (by kernel_rfl) (by kernel_rfl) (fun _ _ _ h => h) (.inl ⟨by kernel_rfl, fun U => by go_simp⟩) ?_
  refine any_at (i := 13) (d := 8) (v := .agg #[.int .i64 2, .int .i64 2]) rfl rfl (by kernel_rfl) (by kernel_rfl) (by kernel_rfl) (fun _ _ _ h => h) (.inl ⟨by kernel_rfl, fun U => by go_simp⟩) ?_
  refine any_at (i := 15) (d := 9) (v := .agg #[.int .i64 2, .int .i64 3]) rfl rfl (by kernel_rfl) (by kernel_rfl) (by kernel_rfl) (fun _ _ _ h => h) (.inl ⟨by kernel_rfl, fun U => by go_simp⟩) ?_
  refine any_at (i := 17) (d := 10) (v := .agg #[.int .i64 2, .int .i64 4]) rfl rfl (by kernel_rfl) (by kernel_rfl) (by kernel_rfl) (fun _ _ _ h => h) (.inl ⟨by kernel_rfl, fun U => by go_simp⟩) ?_
  refine any_at (i := 19) (d := 11) (v := .agg #[.int .i64 2, .int .i64 5]) rfl rfl (by kernel_rfl) (by kernel_rfl) (by kernel_rfl) (fun _ _ _ h => h) (.inl ⟨by kernel_rfl, fun U => by go_simp⟩) ?_
  refine any_at (i := 21) (d := 12) (v := .agg #[.int .i64 2, .int .i64 6]) rfl rfl (by kernel_rfl) (by kernel_rfl) (by kernel_rfl) (fun _ _ _ h => h) (.inl ⟨by kernel_rfl, fun U => by go_simp⟩) ?_
  refine any_at (i := 23) (d := 13) (v := .agg #[.int .i64 3, .int .i64 0]) rfl rfl (by kernel_rfl) (by kernel_rfl) (by kernel_rfl) (fun _ _ _ h => h) (.inl ⟨by kernel_rfl, fun U => by go_simp⟩) ?_
  refine any_at (i := 25) (d := 14) (v := .agg #[.int .i64 3, .int .i64 1]) rfl rfl (by kernel_rfl) (by kernel_rfl) (by kernel_rfl) (fun _ _ _ h => h) (.inl ⟨by kernel_rfl, fun U => by go_simp⟩) ?_
  refine any_at (i := 27) (d := 15) (v := .agg #[.int .i64 3, .int .i64 2]) rfl rfl (by kernel_rfl) (by kernel_rfl) (by kernel_rfl) (fun _ _ _ h => h) (.inl ⟨by kernel_rfl, fun U => by go_simp⟩) ?_
  refine any_at (i := 29) (d := 16) (v := .agg #[.int .i64 3, .int .i64 3]) rfl rfl (by kernel_rfl) (by kernel_rfl) (by kernel_rfl) (fun _ _ _ h => h) (.inl ⟨by kernel_rfl, fun U => by go_simp⟩) ?_
  refine wpAny_all (rs := [0]) (by kernel_rfl) (by simp) ?_
  intro i hi
  simp only [List.mem_cons, List.not_mem_nil, or_false] at hi
  subst hi
  unfold wpOp
  go_simp
  left
  rw [run_makeMap]
  change wpAny _ _ _ _ (15 + 2) acsL0 _ _
  simp only [Act.put, List.setIfInBounds_toArray, List.set_cons_zero, List.set_cons_succ]
  have g0 := GMap.made w.drew
  have b0 : Below w.heap.size w (w.drew.alloc (.map #[] 0)) := (Below.refl _ _).drew.alloc (Nat.le_refl _) _
  have hz : w.drew.heap.size = w.heap.size := rfl
  rw [hz] at g0 ⊢
  refine any_set (K := acsK) (L1 := acsL) (by kernel_rfl) (by decide) (fun n L U => ∃ m, m + n ≤ 15 ∧ GMap U w.heap.size m (tblL L) ∧ Below w.heap.size w U) _ 2 ?hop ?hend 15 _ _ (by simp [acsL0]) ?out (by kernel_rfl) ⟨0, by omega, ?g, b0⟩
  case g => rw [tblL_none _ (by decide)]; exact g0
  case out =>
    intro i hi
    have h1 : ∀ i, i < 33 → i ∉ acsK → acsL0.getD i true = acsL.getD i true := by decide
    by_cases h : i < 33
    · exact h1 i h hi
    · simp [Array.getD, h, acsL, acsL0]
  case hop =>
    intro i hi n L U Kc hs hun hI hK
    obtain ⟨m, hm, G, B⟩ := hI
    simp only [acsK, List.mem_cons, List.not_mem_nil, or_false] at hi
    rcases hi with rfl | rfl | rfl | rfl | rfl | rfl | rfl | rfl | rfl | rfl | rfl | rfl | rfl | rfl | rfl
    · obtain ⟨w', hr, G', B'⟩ := G.update (k := 1) (p := 0) ⟨by omega, by omega⟩ ⟨by omega, by omega⟩ 39 (by omega)
      unfold wpOp
      go_simp
      left
      exact hK w' ⟨m + 1, by omega, by rw [tblL_0 L hs]; exact G', B.grown B' (Nat.le_trans (Nat.le_refl _) B.size) (fun k hk => by cases hk; exact Nat.le_refl _)⟩
    · obtain ⟨w', hr, G', B'⟩ := G.update (k := 1) (p := 1) ⟨by omega, by omega⟩ ⟨by omega, by omega⟩ 40 (by omega)
      unfold wpOp
      go_simp
      left
      exact hK w' ⟨m + 1, by omega, by rw [tblL_1 L hs]; exact G', B.grown B' (Nat.le_trans (Nat.le_refl _) B.size) (fun k hk => by cases hk; exact Nat.le_refl _)⟩
    · obtain ⟨w', hr, G', B'⟩ := G.update (k := 1) (p := 2) ⟨by omega, by omega⟩ ⟨by omega, by omega⟩ 41 (by omega)
      unfold wpOp
      go_simp
      left
      exact hK w' ⟨m + 1, by omega, by rw [tblL_2 L hs]; exact G', B.grown B' (Nat.le_trans (Nat.le_refl _) B.size) (fun k hk => by cases hk; exact Nat.le_refl _)⟩
    · obtain ⟨w', hr, G', B'⟩ := G.update (k := 1) (p := 3) ⟨by omega, by omega⟩ ⟨by omega, by omega⟩ 42 (by omega)
      unfold wpOp
      go_simp
      left
      exact hK w' ⟨m + 1, by omega, by rw [tblL_3 L hs]; exact G', B.grown B' (Nat.le_trans (Nat.le_refl _) B.size) (fun k hk => by cases hk; exact Nat.le_refl _)⟩
    · obtain ⟨w', hr, G', B'⟩ := G.update (k := 2) (p := 0) ⟨by omega, by omega⟩ ⟨by omega, by omega⟩ 43 (by omega)
      unfold wpOp
      go_simp
      left
      exact hK w' ⟨m + 1, by omega, by rw [tblL_4 L hs]; exact G', B.grown B' (Nat.le_trans (Nat.le_refl _) B.size) (fun k hk => by cases hk; exact Nat.le_refl _)⟩
    · obtain ⟨w', hr, G', B'⟩ := G.update (k := 2) (p := 1) ⟨by omega, by omega⟩ ⟨by omega, by omega⟩ 44 (by omega)
      unfold wpOp
      go_simp
      left
      exact hK w' ⟨m + 1, by omega, by rw [tblL_5 L hs]; exact G', B.grown B' (Nat.le_trans (Nat.le_refl _) B.size) (fun k hk => by cases hk; exact Nat.le_refl _)⟩
    · obtain ⟨w', hr, G', B'⟩ := G.update (k := 2) (p := 2) ⟨by omega, by omega⟩ ⟨by omega, by omega⟩ 45 (by omega)
      unfold wpOp
      go_simp
      left
      exact hK w' ⟨m + 1, by omega, by rw [tblL_6 L hs]; exact G', B.grown B' (Nat.le_trans (Nat.le_refl _) B.size) (fun k hk => by cases hk; exact Nat.le_refl _)⟩
    · obtain ⟨w', hr, G', B'⟩ := G.update (k := 2) (p := 3) ⟨by omega, by omega⟩ ⟨by omega, by omega⟩ 46 (by omega)
      unfold wpOp
      go_simp
      left
      exact hK w' ⟨m + 1, by omega, by rw [tblL_7 L hs]; exact G', B.grown B' (Nat.le_trans (Nat.le_refl _) B.size) (fun k hk => by cases hk; exact Nat.le_refl _)⟩
    · obtain ⟨w', hr, G', B'⟩ := G.update (k := 2) (p := 4) ⟨by omega, by omega⟩ ⟨by omega, by omega⟩ 47 (by omega)
      unfold wpOp
      go_simp
      left
      exact hK w' ⟨m + 1, by omega, by rw [tblL_8 L hs]; exact G', B.grown B' (Nat.le_trans (Nat.le_refl _) B.size) (fun k hk => by cases hk; exact Nat.le_refl _)⟩
    · obtain ⟨w', hr, G', B'⟩ := G.update (k := 2) (p := 5) ⟨by omega, by omega⟩ ⟨by omega, by omega⟩ 48 (by omega)
      unfold wpOp
      go_simp
      left
      exact hK w' ⟨m + 1, by omega, by rw [tblL_9 L hs]; exact G', B.grown B' (Nat.le_trans (Nat.le_refl _) B.size) (fun k hk => by cases hk; exact Nat.le_refl _)⟩
    · obtain ⟨w', hr, G', B'⟩ := G.update (k := 2) (p := 6) ⟨by omega, by omega⟩ ⟨by omega, by omega⟩ 49 (by omega)
      unfold wpOp
      go_simp
      left
      exact hK w' ⟨m + 1, by omega, by rw [tblL_10 L hs]; exact G', B.grown B' (Nat.le_trans (Nat.le_refl _) B.size) (fun k hk => by cases hk; exact Nat.le_refl _)⟩
    · obtain ⟨w', hr, G', B'⟩ := G.update (k := 3) (p := 0) ⟨by omega, by omega⟩ ⟨by omega, by omega⟩ 39 (by omega)
      unfold wpOp
      go_simp
      left
      exact hK w' ⟨m + 1, by omega, by rw [tblL_11 L hs]; exact G', B.grown B' (Nat.le_trans (Nat.le_refl _) B.size) (fun k hk => by cases hk; exact Nat.le_refl _)⟩
    · obtain ⟨w', hr, G', B'⟩ := G.update (k := 3) (p := 1) ⟨by omega, by omega⟩ ⟨by omega, by omega⟩ 50 (by omega)
      unfold wpOp
      go_simp
      left
      exact hK w' ⟨m + 1, by omega, by rw [tblL_12 L hs]; exact G', B.grown B' (Nat.le_trans (Nat.le_refl _) B.size) (fun k hk => by cases hk; exact Nat.le_refl _)⟩
    · obtain ⟨w', hr, G', B'⟩ := G.update (k := 3) (p := 2) ⟨by omega, by omega⟩ ⟨by omega, by omega⟩ 51 (by omega)
      unfold wpOp
      go_simp
      left
      exact hK w' ⟨m + 1, by omega, by rw [tblL_13 L hs]; exact G', B.grown B' (Nat.le_trans (Nat.le_refl _) B.size) (fun k hk => by cases hk; exact Nat.le_refl _)⟩
    · obtain ⟨w', hr, G', B'⟩ := G.update (k := 3) (p := 3) ⟨by omega, by omega⟩ ⟨by omega, by omega⟩ 52 (by omega)
      unfold wpOp
      go_simp
      left
      exact hK w' ⟨m + 1, by omega, by rw [tblL_14 L hs]; exact G', B.grown B' (Nat.le_trans (Nat.le_refl _) B.size) (fun k hk => by cases hk; exact Nat.le_refl _)⟩

  case hend =>
    intro U hI
    obtain ⟨m, hm, G, B⟩ := hI
    rw [tblL_all _ (by decide)] at G
    refine any_at (i := 31) (d := 17) (v := .map (some w.heap.size)) rfl rfl (by kernel_rfl) (by kernel_rfl) (by kernel_rfl) (fun _ _ _ h => h) (.inl ⟨by kernel_rfl, fun U => by go_simp⟩) ?_
    refine any_at (i := 32) (d := 0) (v := .map (some w.heap.size)) rfl rfl (by kernel_rfl) (by kernel_rfl) (by kernel_rfl) (fun _ _ _ h => h) (.inl ⟨by kernel_rfl, fun U => by go_simp⟩) ?_
    refine wpAny_done (by kernel_rfl) ?_ _
    simp only [Act.put, List.setIfInBounds_toArray, List.set_cons_zero, List.set_cons_succ]
    have HG := Lib.hid G
    have HB := Lib.hid B
    clear G B hm
    go_wp2
    go_ret
    exact ⟨w.heap.size, m, rfl, HG.out, HB.out⟩

end Go.Proofs.Ytfmiamjbhlglbaa

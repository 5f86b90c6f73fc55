/-
  Layer 9, the program: a descriptor that is not Open, one that is quiet; whether one may be.
-/
import Derived.Test.YtndbaoiabmldgaaDd
namespace Go.Proofs.Ytndbaoiabmldgaa
open Go.RowKit

theorem nothing_any (w : World) : Calls Try.prog 30 #[] w (RetB (.agg #[.bool false, .bool false, .int .i64 (-1)]) w) := by
  have k0 := Bk.new w 34 #[.bool false, .bool false, .int .i64 (-1)]
  have b0 := (Below.refl w.heap.size w).alloc (Nat.le_refl _) (.cells #[.bool false, .bool false, .int .i64 (-1)] 34)
  have c0 : _ = some (Value.bool false) := k0.cell 0
  have c1 : _ = some (Value.bool false) := k0.cell 1
  have c2 : _ = some (Value.int .i64 (-1)) := k0.cell 2
  have B0 := Lib.hid b0
  clear k0 b0
  go_enter Try.func30, Try.ntmps30
  go_wp2_with fail
  exact bodyPost_ret (v := .agg #[.bool false, .bool false, .int .i64 (-1)]) (by simp [results, Try.results30, go_sem, *]) rfl ⟨rfl, B0.out⟩
theorem quiet_any (w : World) : Calls Try.prog 32 #[] w (RetB (.agg #[.bool true, .bool false, .int .i64 (-1)]) w) := by
  have k0 := Bk.new w 34 #[.bool true, .bool false, .int .i64 (-1)]
  have b0 := (Below.refl w.heap.size w).alloc (Nat.le_refl _) (.cells #[.bool true, .bool false, .int .i64 (-1)] 34)
  have c0 : _ = some (Value.bool true) := k0.cell 0
  have c1 : _ = some (Value.bool false) := k0.cell 1
  have c2 : _ = some (Value.int .i64 (-1)) := k0.cell 2
  have B0 := Lib.hid b0
  clear k0 b0
  go_enter Try.func32, Try.ntmps32
  go_wp2_with fail
  exact bodyPost_ret (v := .agg #[.bool true, .bool false, .int .i64 (-1)]) (by simp [results, Try.results32, go_sem, *]) rfl ⟨rfl, B0.out⟩
/-- What a region reads: a box of its own. -/
structure SBx (V : World) (g : Nat) (o r : Bool) (z : Int) (U : World) : Prop where
  k : Bk U g 34 #[.bool o, .bool r, .int .i64 z]
  b : Below V.heap.size V U
theorem SBx.q {V : World} {g : Nat} {o r : Bool} {z : Int} {U : World} (h : SBx V g o r z U) : U.cell? ⟨g, 0, none⟩ = some (.bool o) ∧ U.cell? ⟨g, 1, none⟩ = some (.bool r) ∧ U.cell? ⟨g, 2, none⟩ = some (.int .i64 z) ∧ g < U.heap.size := ⟨h.k.cell 0, h.k.cell 1, h.k.cell 2, h.k.lt⟩
theorem SBx.below {V : World} {g : Nat} {o r : Bool} {z : Int} {U U' : World} (h : SBx V g o r z U) (hb : Below U.heap.size U U') : SBx V g o r z U' := ⟨h.k.below hb h.k.lt, below3 h.b hb⟩
theorem SBx.drew {V : World} {g : Nat} {o r : Bool} {z : Int} (h : Bk V g 34 #[.bool o, .bool r, .int .i64 z]) : SBx V g o r z V.drew := ⟨h.drew, (Below.refl _ _).drew⟩

set_option maxHeartbeats 1000000 in
theorem pmay_any (o r : Bool) (z : Int) (w : World) : Calls Try.prog 38 #[.agg #[.bool o, .bool r, .int .i64 z]] w (RetB (.bool (decide (okD (o, r, z)))) w) := by
  cases o with
  | false =>
    have HD := Lib.hid (show decide (((false, r, z) : Ds) = (false, false, -1)) = decide (okD (false, r, z)) from by
      rw [decide_eq_decide]
      unfold okD
      simp only [Prod.mk.injEq, true_and, forall_const]
      refine ⟨fun ⟨h1, h2⟩ => ⟨⟨h1, h2⟩, fun _ => h2, by omega⟩, fun h => h.1⟩)
    obtain ⟨v, hv⟩ : ∃ v, decide (okD (false, r, z)) = v := ⟨_, rfl⟩
    rw [hv] at HD ⊢
    have hE := eql_fd false r z false false (-1)
    rw [HD.out] at hE
    have hG := guard_fd .eql
    clear hv HD
    have k0 := Bk.new w 34 #[.bool false, .bool r, .int .i64 z]
    have b0 := (Below.refl w.heap.size w).alloc (Nat.le_refl _) (.cells #[.bool false, .bool r, .int .i64 z] 34)
    obtain ⟨g, hg⟩ : ∃ g, w.heap.size = g := ⟨_, rfl⟩
    obtain ⟨V, hV⟩ : ∃ V, w.alloc (.cells #[.bool false, .bool r, .int .i64 z] 34) = V := ⟨_, rfl⟩
    rw [hV] at k0 b0
    rw [hg] at k0
    have HV := Lib.hid hV
    have HG := Lib.hid hg
    have KV := Lib.hid k0
    have BV := Lib.hid b0
    clear hV hg k0 b0
    go_enter Try.func38, Try.ntmps38
    go_upto_region 1 with fail
    rw [HV.out]
    try rw [HG.out]
    clear HV HG
    have q0 : _ = some (Value.bool false) := KV.out.cell 0
    have q1 : _ = some (Value.bool r) := KV.out.cell 1
    have q2 : _ = some (Value.int .i64 z) := KV.out.cell 2
    have lq := KV.out.lt
    go_wp2_with fail
    refine calm_region (S := SBx V g false r z) (by kernel_rfl) (SBx.drew KV.out) ?_
    refine calm_to (i := 0) (t := 7) (v := .agg #[.bool false, .bool r, .int .i64 z]) rfl rfl (by kernel_rfl) (by kernel_rfl) (by kernel_rfl) (fun _ _ _ h => h) (calm_of (by kernel_rfl) (fun U hU => by obtain ⟨q0, q1, q2, lq⟩ := hU.q; go_simp)) ?_
    simp only [List.setIfInBounds_toArray, List.set_cons_zero, List.set_cons_succ]
    refine calm_to (i := 1) (t := 8) (v := .agg #[.bool false, .bool false, .int .i64 (-1)]) rfl rfl (by kernel_rfl) (by kernel_rfl) (by kernel_rfl) (fun _ _ _ h => h) (calm_call0 (by kernel_rfl) 30 rfl (enters_of Try.func30 (by kernel_rfl) rfl) (fun U hU => (nothing_any U).mono fun _ _ q => ⟨q.1, hU.below q.2⟩)) ?_
    simp only [List.setIfInBounds_toArray, List.set_cons_zero, List.set_cons_succ]
    refine calm_to (i := 2) (t := 9) (v := .bool v) rfl rfl (by kernel_rfl) (by kernel_rfl) (by kernel_rfl) (fun _ _ _ h => h) (calm_of (by kernel_rfl) (fun U hU => by go_simp)) ?_
    simp only [List.setIfInBounds_toArray, List.set_cons_zero, List.set_cons_succ]
    refine calm_to (i := 3) (t := 2) (v := .bool v) rfl rfl (by kernel_rfl) (by kernel_rfl) (by kernel_rfl) (fun _ _ _ h => h) (calm_move (by kernel_rfl) (.tmp 9) (.inr rfl) rfl) ?_
    simp only [List.setIfInBounds_toArray, List.set_cons_zero, List.set_cons_succ]
    refine calm_done (by kernel_rfl) (fun U hU => ?_) _
    have BB := Lib.hid (below3 BV.out hU.b)
    clear hU KV q0 q1 q2 lq
    go_wp2_with fail
    go_ret
    exact ⟨rfl, BB.out⟩
  | true =>
    cases r with
    | true =>
      obtain ⟨v, hv⟩ : ∃ v, decide (okD (true, true, z)) = v := ⟨_, rfl⟩
      have t0 : (z == -1) = v := by
        rw [← hv]
        by_cases e : z = -1
        · subst e; decide
        · rw [show (z == -1) = false by simpa using e]
          exact (decide_eq_false (fun (q : okD (true, true, z)) => e (q.2.1 rfl))).symm
      rw [hv]
      clear hv
      have k0 := Bk.new w 34 #[.bool true, .bool true, .int .i64 z]
      have b0 := (Below.refl w.heap.size w).alloc (Nat.le_refl _) (.cells #[.bool true, .bool true, .int .i64 z] 34)
      obtain ⟨g, hg⟩ : ∃ g, w.heap.size = g := ⟨_, rfl⟩
      obtain ⟨V, hV⟩ : ∃ V, w.alloc (.cells #[.bool true, .bool true, .int .i64 z] 34) = V := ⟨_, rfl⟩
      rw [hV] at k0 b0
      rw [hg] at k0
      have HV := Lib.hid hV
      have HG := Lib.hid hg
      have KV := Lib.hid k0
      have BV := Lib.hid b0
      clear hV hg k0 b0
      go_enter Try.func38, Try.ntmps38
      go_upto_region 1 with fail
      rw [HV.out]
      try rw [HG.out]
      clear HV HG
      have q0 : _ = some (Value.bool true) := KV.out.cell 0
      have q1 : _ = some (Value.bool true) := KV.out.cell 1
      have q2 : _ = some (Value.int .i64 z) := KV.out.cell 2
      have lq := KV.out.lt
      go_wp2_with fail
      go_ret
      exact ⟨rfl, BV.out⟩
    | false =>
      obtain ⟨v, hv⟩ : ∃ v, decide (okD (true, false, z)) = v := ⟨_, rfl⟩
      have t0 : decide (-1 ≤ z) = v := by
        rw [← hv, decide_eq_decide]
        unfold okD
        simp
      rw [hv]
      clear hv
      have k0 := Bk.new w 34 #[.bool true, .bool false, .int .i64 z]
      have b0 := (Below.refl w.heap.size w).alloc (Nat.le_refl _) (.cells #[.bool true, .bool false, .int .i64 z] 34)
      obtain ⟨g, hg⟩ : ∃ g, w.heap.size = g := ⟨_, rfl⟩
      obtain ⟨V, hV⟩ : ∃ V, w.alloc (.cells #[.bool true, .bool false, .int .i64 z] 34) = V := ⟨_, rfl⟩
      rw [hV] at k0 b0
      rw [hg] at k0
      have HV := Lib.hid hV
      have HG := Lib.hid hg
      have KV := Lib.hid k0
      have BV := Lib.hid b0
      clear hV hg k0 b0
      go_enter Try.func38, Try.ntmps38
      go_upto_region 1 with fail
      rw [HV.out]
      try rw [HG.out]
      clear HV HG
      have q0 : _ = some (Value.bool true) := KV.out.cell 0
      have q1 : _ = some (Value.bool false) := KV.out.cell 1
      have q2 : _ = some (Value.int .i64 z) := KV.out.cell 2
      have lq := KV.out.lt
      go_wp2_with fail
      go_ret
      exact ⟨rfl, BV.out⟩

end Go.Proofs.Ytndbaoiabmldgaa

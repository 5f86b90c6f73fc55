/-
  The contract of the document's May (layer 7).
-/
import Derived.Test.YtfmiamjbhlglbaaRb
namespace Go.Proofs.Ytfmiamjbhlglbaa
open Go.RowKit

theorem may_0 (hk hp hx ht hb : Int) (hw : Bool) (hs : Int) (w : World) (g0 : ¬ (0 ≤ hp)) : Calls Try.prog 22 #[.agg #[.int .i64 hk, .int .i64 hp, .int .i64 hx, .int .i64 ht, .int .i64 hb, .bool hw, .int .i64 hs]] w (RetB (.bool false) w) := by
  have B0 := Lib.hid ((Below.refl w.heap.size w).alloc (Nat.le_refl _) (.cells #[.int .i64 hk, .int .i64 hp, .int .i64 hx, .int .i64 ht, .int .i64 hb, .bool hw, .int .i64 hs] 27))
  have k0 := Lib.hid (Bk.new w 27 #[.int .i64 hk, .int .i64 hp, .int .i64 hx, .int .i64 ht, .int .i64 hb, .bool hw, .int .i64 hs])
  go_enter Try.func22, Try.ntmps22
  go_wp2_with fail
  refine calm_region (S := fun U => Below (w.alloc (.cells #[.int .i64 hk, .int .i64 hp, .int .i64 hx, .int .i64 ht, .int .i64 hb, .bool hw, .int .i64 hs] 27)).heap.size (w.alloc (.cells #[.int .i64 hk, .int .i64 hp, .int .i64 hx, .int .i64 ht, .int .i64 hb, .bool hw, .int .i64 hs] 27)) U) (by kernel_rfl) (Below.refl _ _).drew ?_
  refine calm_to (i := 0) (t := 3) (v := .pointer (some ⟨w.heap.size, 1, none⟩)) rfl rfl (by kernel_rfl) (by kernel_rfl) (by kernel_rfl) (fun _ _ _ h => h) (calm_of rfl (fun U _ => by go_simp)) ?_
  simp only [List.setIfInBounds_toArray, List.set_cons_zero, List.set_cons_succ]
  refine calm_to (i := 1) (t := 4) (v := .int .i64 hp) rfl rfl (by kernel_rfl) (by kernel_rfl) (by kernel_rfl) (fun _ _ _ h => h) (calm_of rfl (fun U hU => by have h7 : _ = some (Value.int .i64 hp) := (k0.out.below hU k0.out.lt).cell 1; go_simp)) ?_
  simp only [List.setIfInBounds_toArray, List.set_cons_zero, List.set_cons_succ]
  refine calm_to (i := 2) (t := 5) (v := .bool false) rfl rfl (by kernel_rfl) (by kernel_rfl) (by kernel_rfl) (fun _ _ _ h => h) (calm_of rfl (fun U _ => by go_simp)) ?_
  simp only [List.setIfInBounds_toArray, List.set_cons_zero, List.set_cons_succ]
  refine calm_to (i := 3) (t := 6) (v := .bool false) rfl rfl (by kernel_rfl) (by kernel_rfl) (by kernel_rfl) (fun _ _ _ h => h) (calm_move rfl (.tmp 5) (.inl rfl) rfl) ?_
  simp only [List.setIfInBounds_toArray, List.set_cons_zero, List.set_cons_succ]
  refine calm_to (i := 4) (t := 7) (v := undef) rfl rfl (by kernel_rfl) (by kernel_rfl) (by kernel_rfl) (fun _ _ _ h => h) (calm_skip rfl) ?_
  simp only [List.setIfInBounds_toArray, List.set_cons_zero, List.set_cons_succ]
  refine calm_to (i := 5) (t := 8) (v := undef) rfl rfl (by kernel_rfl) (by kernel_rfl) (by kernel_rfl) (fun _ _ _ h => h) (calm_skip rfl) ?_
  simp only [List.setIfInBounds_toArray, List.set_cons_zero, List.set_cons_succ]
  refine calm_to (i := 6) (t := 9) (v := undef) rfl rfl (by kernel_rfl) (by kernel_rfl) (by kernel_rfl) (fun _ _ _ h => h) (calm_skip rfl) ?_
  simp only [List.setIfInBounds_toArray, List.set_cons_zero, List.set_cons_succ]
  refine calm_to (i := 7) (t := 10) (v := undef) rfl rfl (by kernel_rfl) (by kernel_rfl) (by kernel_rfl) (fun _ _ _ h => h) (calm_skip rfl) ?_
  simp only [List.setIfInBounds_toArray, List.set_cons_zero, List.set_cons_succ]
  refine calm_to (i := 8) (t := 11) (v := undef) rfl rfl (by kernel_rfl) (by kernel_rfl) (by kernel_rfl) (fun _ _ _ h => h) (calm_skip rfl) ?_
  simp only [List.setIfInBounds_toArray, List.set_cons_zero, List.set_cons_succ]
  refine calm_to (i := 9) (t := 12) (v := undef) rfl rfl (by kernel_rfl) (by kernel_rfl) (by kernel_rfl) (fun _ _ _ h => h) (calm_skip rfl) ?_
  simp only [List.setIfInBounds_toArray, List.set_cons_zero, List.set_cons_succ]
  refine calm_to (i := 10) (t := 13) (v := .bool false) rfl rfl (by kernel_rfl) (by kernel_rfl) (by kernel_rfl) (fun _ _ _ h => h) (calm_pick rfl (.tmp 6) (.tmp 12) (.const (.bool false)) rfl false rfl rfl) ?_
  simp only [List.setIfInBounds_toArray, List.set_cons_zero, List.set_cons_succ]
  refine calm_to (i := 11) (t := 14) (v := .bool false) rfl rfl (by kernel_rfl) (by kernel_rfl) (by kernel_rfl) (fun _ _ _ h => h) (calm_move rfl (.tmp 13) (.inl rfl) rfl) ?_
  simp only [List.setIfInBounds_toArray, List.set_cons_zero, List.set_cons_succ]
  refine calm_to (i := 12) (t := 15) (v := undef) rfl rfl (by kernel_rfl) (by kernel_rfl) (by kernel_rfl) (fun _ _ _ h => h) (calm_skip rfl) ?_
  simp only [List.setIfInBounds_toArray, List.set_cons_zero, List.set_cons_succ]
  refine calm_to (i := 13) (t := 16) (v := undef) rfl rfl (by kernel_rfl) (by kernel_rfl) (by kernel_rfl) (fun _ _ _ h => h) (calm_skip rfl) ?_
  simp only [List.setIfInBounds_toArray, List.set_cons_zero, List.set_cons_succ]
  refine calm_to (i := 14) (t := 17) (v := undef) rfl rfl (by kernel_rfl) (by kernel_rfl) (by kernel_rfl) (fun _ _ _ h => h) (calm_skip rfl) ?_
  simp only [List.setIfInBounds_toArray, List.set_cons_zero, List.set_cons_succ]
  refine calm_to (i := 15) (t := 18) (v := .bool false) rfl rfl (by kernel_rfl) (by kernel_rfl) (by kernel_rfl) (fun _ _ _ h => h) (calm_pick rfl (.tmp 14) (.tmp 17) (.const (.bool false)) rfl false rfl rfl) ?_
  simp only [List.setIfInBounds_toArray, List.set_cons_zero, List.set_cons_succ]
  refine calm_to (i := 16) (t := 19) (v := .bool false) rfl rfl (by kernel_rfl) (by kernel_rfl) (by kernel_rfl) (fun _ _ _ h => h) (calm_move rfl (.tmp 18) (.inl rfl) rfl) ?_
  simp only [List.setIfInBounds_toArray, List.set_cons_zero, List.set_cons_succ]
  refine calm_to (i := 17) (t := 20) (v := undef) rfl rfl (by kernel_rfl) (by kernel_rfl) (by kernel_rfl) (fun _ _ _ h => h) (calm_skip rfl) ?_
  simp only [List.setIfInBounds_toArray, List.set_cons_zero, List.set_cons_succ]
  refine calm_to (i := 18) (t := 21) (v := undef) rfl rfl (by kernel_rfl) (by kernel_rfl) (by kernel_rfl) (fun _ _ _ h => h) (calm_skip rfl) ?_
  simp only [List.setIfInBounds_toArray, List.set_cons_zero, List.set_cons_succ]
  refine calm_to (i := 19) (t := 22) (v := undef) rfl rfl (by kernel_rfl) (by kernel_rfl) (by kernel_rfl) (fun _ _ _ h => h) (calm_skip rfl) ?_
  simp only [List.setIfInBounds_toArray, List.set_cons_zero, List.set_cons_succ]
  refine calm_to (i := 20) (t := 23) (v := .bool false) rfl rfl (by kernel_rfl) (by kernel_rfl) (by kernel_rfl) (fun _ _ _ h => h) (calm_pick rfl (.tmp 19) (.tmp 22) (.const (.bool false)) rfl false rfl rfl) ?_
  simp only [List.setIfInBounds_toArray, List.set_cons_zero, List.set_cons_succ]
  refine calm_to (i := 21) (t := 24) (v := .bool false) rfl rfl (by kernel_rfl) (by kernel_rfl) (by kernel_rfl) (fun _ _ _ h => h) (calm_move rfl (.tmp 23) (.inl rfl) rfl) ?_
  simp only [List.setIfInBounds_toArray, List.set_cons_zero, List.set_cons_succ]
  refine calm_to (i := 22) (t := 25) (v := undef) rfl rfl (by kernel_rfl) (by kernel_rfl) (by kernel_rfl) (fun _ _ _ h => h) (calm_skip rfl) ?_
  simp only [List.setIfInBounds_toArray, List.set_cons_zero, List.set_cons_succ]
  refine calm_to (i := 23) (t := 26) (v := undef) rfl rfl (by kernel_rfl) (by kernel_rfl) (by kernel_rfl) (fun _ _ _ h => h) (calm_skip rfl) ?_
  simp only [List.setIfInBounds_toArray, List.set_cons_zero, List.set_cons_succ]
  refine calm_to (i := 24) (t := 27) (v := undef) rfl rfl (by kernel_rfl) (by kernel_rfl) (by kernel_rfl) (fun _ _ _ h => h) (calm_skip rfl) ?_
  simp only [List.setIfInBounds_toArray, List.set_cons_zero, List.set_cons_succ]
  refine calm_to (i := 25) (t := 28) (v := .bool false) rfl rfl (by kernel_rfl) (by kernel_rfl) (by kernel_rfl) (fun _ _ _ h => h) (calm_pick rfl (.tmp 24) (.tmp 27) (.const (.bool false)) rfl false rfl rfl) ?_
  simp only [List.setIfInBounds_toArray, List.set_cons_zero, List.set_cons_succ]
  refine calm_to (i := 26) (t := 29) (v := .bool false) rfl rfl (by kernel_rfl) (by kernel_rfl) (by kernel_rfl) (fun _ _ _ h => h) (calm_move rfl (.tmp 28) (.inl rfl) rfl) ?_
  simp only [List.setIfInBounds_toArray, List.set_cons_zero, List.set_cons_succ]
  refine calm_to (i := 27) (t := 30) (v := undef) rfl rfl (by kernel_rfl) (by kernel_rfl) (by kernel_rfl) (fun _ _ _ h => h) (calm_skip rfl) ?_
  simp only [List.setIfInBounds_toArray, List.set_cons_zero, List.set_cons_succ]
  refine calm_to (i := 28) (t := 31) (v := undef) rfl rfl (by kernel_rfl) (by kernel_rfl) (by kernel_rfl) (fun _ _ _ h => h) (calm_skip rfl) ?_
  simp only [List.setIfInBounds_toArray, List.set_cons_zero, List.set_cons_succ]
  refine calm_to (i := 29) (t := 32) (v := undef) rfl rfl (by kernel_rfl) (by kernel_rfl) (by kernel_rfl) (fun _ _ _ h => h) (calm_skip rfl) ?_
  simp only [List.setIfInBounds_toArray, List.set_cons_zero, List.set_cons_succ]
  refine calm_to (i := 30) (t := 33) (v := .bool false) rfl rfl (by kernel_rfl) (by kernel_rfl) (by kernel_rfl) (fun _ _ _ h => h) (calm_pick rfl (.tmp 29) (.tmp 32) (.const (.bool false)) rfl false rfl rfl) ?_
  simp only [List.setIfInBounds_toArray, List.set_cons_zero, List.set_cons_succ]
  refine calm_to (i := 31) (t := 2) (v := .bool false) rfl rfl (by kernel_rfl) (by kernel_rfl) (by kernel_rfl) (fun _ _ _ h => h) (calm_move rfl (.tmp 33) (.inr rfl) rfl) ?_
  simp only [List.setIfInBounds_toArray, List.set_cons_zero, List.set_cons_succ]
  refine calm_done (by kernel_rfl) ?_ _
  intro U hU
  have BU := Lib.hid (below3 B0.out hU)
  clear hU k0
  go_wp2
  go_ret
  exact ⟨rfl, BU.out⟩

theorem may_1 (hk hp hx ht hb : Int) (hw : Bool) (hs : Int) (w : World) (g0 : (0 ≤ hp)) (g1 : ¬ (hp < pcsF hk)) : Calls Try.prog 22 #[.agg #[.int .i64 hk, .int .i64 hp, .int .i64 hx, .int .i64 ht, .int .i64 hb, .bool hw, .int .i64 hs]] w (RetB (.bool false) w) := by
  have B0 := Lib.hid ((Below.refl w.heap.size w).alloc (Nat.le_refl _) (.cells #[.int .i64 hk, .int .i64 hp, .int .i64 hx, .int .i64 ht, .int .i64 hb, .bool hw, .int .i64 hs] 27))
  have k0 := Lib.hid (Bk.new w 27 #[.int .i64 hk, .int .i64 hp, .int .i64 hx, .int .i64 ht, .int .i64 hb, .bool hw, .int .i64 hs])
  go_enter Try.func22, Try.ntmps22
  go_wp2_with fail
  refine calm_region (S := fun U => Below (w.alloc (.cells #[.int .i64 hk, .int .i64 hp, .int .i64 hx, .int .i64 ht, .int .i64 hb, .bool hw, .int .i64 hs] 27)).heap.size (w.alloc (.cells #[.int .i64 hk, .int .i64 hp, .int .i64 hx, .int .i64 ht, .int .i64 hb, .bool hw, .int .i64 hs] 27)) U) (by kernel_rfl) (Below.refl _ _).drew ?_
  refine calm_to (i := 0) (t := 3) (v := .pointer (some ⟨w.heap.size, 1, none⟩)) rfl rfl (by kernel_rfl) (by kernel_rfl) (by kernel_rfl) (fun _ _ _ h => h) (calm_of rfl (fun U _ => by go_simp)) ?_
  simp only [List.setIfInBounds_toArray, List.set_cons_zero, List.set_cons_succ]
  refine calm_to (i := 1) (t := 4) (v := .int .i64 hp) rfl rfl (by kernel_rfl) (by kernel_rfl) (by kernel_rfl) (fun _ _ _ h => h) (calm_of rfl (fun U hU => by have h7 : _ = some (Value.int .i64 hp) := (k0.out.below hU k0.out.lt).cell 1; go_simp)) ?_
  simp only [List.setIfInBounds_toArray, List.set_cons_zero, List.set_cons_succ]
  refine calm_to (i := 2) (t := 5) (v := .bool true) rfl rfl (by kernel_rfl) (by kernel_rfl) (by kernel_rfl) (fun _ _ _ h => h) (calm_of rfl (fun U _ => by go_simp)) ?_
  simp only [List.setIfInBounds_toArray, List.set_cons_zero, List.set_cons_succ]
  refine calm_to (i := 3) (t := 6) (v := .bool true) rfl rfl (by kernel_rfl) (by kernel_rfl) (by kernel_rfl) (fun _ _ _ h => h) (calm_move rfl (.tmp 5) (.inl rfl) rfl) ?_
  simp only [List.setIfInBounds_toArray, List.set_cons_zero, List.set_cons_succ]
  refine calm_to (i := 4) (t := 7) (v := .pointer (some ⟨w.heap.size, 1, none⟩)) rfl rfl (by kernel_rfl) (by kernel_rfl) (by kernel_rfl) (fun _ _ _ h => h) (calm_of rfl (fun U _ => by go_simp)) ?_
  simp only [List.setIfInBounds_toArray, List.set_cons_zero, List.set_cons_succ]
  refine calm_to (i := 5) (t := 8) (v := .int .i64 hp) rfl rfl (by kernel_rfl) (by kernel_rfl) (by kernel_rfl) (fun _ _ _ h => h) (calm_of rfl (fun U hU => by have h7 : _ = some (Value.int .i64 hp) := (k0.out.below hU k0.out.lt).cell 1; go_simp)) ?_
  simp only [List.setIfInBounds_toArray, List.set_cons_zero, List.set_cons_succ]
  refine calm_to (i := 6) (t := 9) (v := .pointer (some ⟨w.heap.size, 0, none⟩)) rfl rfl (by kernel_rfl) (by kernel_rfl) (by kernel_rfl) (fun _ _ _ h => h) (calm_of rfl (fun U _ => by go_simp)) ?_
  simp only [List.setIfInBounds_toArray, List.set_cons_zero, List.set_cons_succ]
  refine calm_to (i := 7) (t := 10) (v := .int .i64 hk) rfl rfl (by kernel_rfl) (by kernel_rfl) (by kernel_rfl) (fun _ _ _ h => h) (calm_of rfl (fun U hU => by have h7 : _ = some (Value.int .i64 hk) := (k0.out.below hU k0.out.lt).cell 0; go_simp)) ?_
  simp only [List.setIfInBounds_toArray, List.set_cons_zero, List.set_cons_succ]
  refine calm_to (i := 8) (t := 11) (v := .int .i64 (pcsF hk)) rfl rfl (by kernel_rfl) (by kernel_rfl) (by kernel_rfl) (fun _ _ _ h => h) (calm_call1 rfl 28 (.tmp 10) #[3] rfl (enters_of Try.func28 (by kernel_rfl) rfl) (.int .i64 hk) rfl (fun U hU => (pcs_any hk U).mono fun _ _ hh => ⟨hh.1, hU.trans (hh.2.mono hU.size)⟩)) ?_
  simp only [List.setIfInBounds_toArray, List.set_cons_zero, List.set_cons_succ]
  refine calm_to (i := 9) (t := 12) (v := .bool false) rfl rfl (by kernel_rfl) (by kernel_rfl) (by kernel_rfl) (fun _ _ _ h => h) (calm_of rfl (fun U _ => by go_simp)) ?_
  simp only [List.setIfInBounds_toArray, List.set_cons_zero, List.set_cons_succ]
  refine calm_to (i := 10) (t := 13) (v := .bool false) rfl rfl (by kernel_rfl) (by kernel_rfl) (by kernel_rfl) (fun _ _ _ h => h) (calm_pick rfl (.tmp 6) (.tmp 12) (.const (.bool false)) rfl true rfl rfl) ?_
  simp only [List.setIfInBounds_toArray, List.set_cons_zero, List.set_cons_succ]
  refine calm_to (i := 11) (t := 14) (v := .bool false) rfl rfl (by kernel_rfl) (by kernel_rfl) (by kernel_rfl) (fun _ _ _ h => h) (calm_move rfl (.tmp 13) (.inl rfl) rfl) ?_
  simp only [List.setIfInBounds_toArray, List.set_cons_zero, List.set_cons_succ]
  refine calm_to (i := 12) (t := 15) (v := undef) rfl rfl (by kernel_rfl) (by kernel_rfl) (by kernel_rfl) (fun _ _ _ h => h) (calm_skip rfl) ?_
  simp only [List.setIfInBounds_toArray, List.set_cons_zero, List.set_cons_succ]
  refine calm_to (i := 13) (t := 16) (v := undef) rfl rfl (by kernel_rfl) (by kernel_rfl) (by kernel_rfl) (fun _ _ _ h => h) (calm_skip rfl) ?_
  simp only [List.setIfInBounds_toArray, List.set_cons_zero, List.set_cons_succ]
  refine calm_to (i := 14) (t := 17) (v := undef) rfl rfl (by kernel_rfl) (by kernel_rfl) (by kernel_rfl) (fun _ _ _ h => h) (calm_skip rfl) ?_
  simp only [List.setIfInBounds_toArray, List.set_cons_zero, List.set_cons_succ]
  refine calm_to (i := 15) (t := 18) (v := .bool false) rfl rfl (by kernel_rfl) (by kernel_rfl) (by kernel_rfl) (fun _ _ _ h => h) (calm_pick rfl (.tmp 14) (.tmp 17) (.const (.bool false)) rfl false rfl rfl) ?_
  simp only [List.setIfInBounds_toArray, List.set_cons_zero, List.set_cons_succ]
  refine calm_to (i := 16) (t := 19) (v := .bool false) rfl rfl (by kernel_rfl) (by kernel_rfl) (by kernel_rfl) (fun _ _ _ h => h) (calm_move rfl (.tmp 18) (.inl rfl) rfl) ?_
  simp only [List.setIfInBounds_toArray, List.set_cons_zero, List.set_cons_succ]
  refine calm_to (i := 17) (t := 20) (v := undef) rfl rfl (by kernel_rfl) (by kernel_rfl) (by kernel_rfl) (fun _ _ _ h => h) (calm_skip rfl) ?_
  simp only [List.setIfInBounds_toArray, List.set_cons_zero, List.set_cons_succ]
  refine calm_to (i := 18) (t := 21) (v := undef) rfl rfl (by kernel_rfl) (by kernel_rfl) (by kernel_rfl) (fun _ _ _ h => h) (calm_skip rfl) ?_
  simp only [List.setIfInBounds_toArray, List.set_cons_zero, List.set_cons_succ]
  refine calm_to (i := 19) (t := 22) (v := undef) rfl rfl (by kernel_rfl) (by kernel_rfl) (by kernel_rfl) (fun _ _ _ h => h) (calm_skip rfl) ?_
  simp only [List.setIfInBounds_toArray, List.set_cons_zero, List.set_cons_succ]
  refine calm_to (i := 20) (t := 23) (v := .bool false) rfl rfl (by kernel_rfl) (by kernel_rfl) (by kernel_rfl) (fun _ _ _ h => h) (calm_pick rfl (.tmp 19) (.tmp 22) (.const (.bool false)) rfl false rfl rfl) ?_
  simp only [List.setIfInBounds_toArray, List.set_cons_zero, List.set_cons_succ]
  refine calm_to (i := 21) (t := 24) (v := .bool false) rfl rfl (by kernel_rfl) (by kernel_rfl) (by kernel_rfl) (fun _ _ _ h => h) (calm_move rfl (.tmp 23) (.inl rfl) rfl) ?_
  simp only [List.setIfInBounds_toArray, List.set_cons_zero, List.set_cons_succ]
  refine calm_to (i := 22) (t := 25) (v := undef) rfl rfl (by kernel_rfl) (by kernel_rfl) (by kernel_rfl) (fun _ _ _ h => h) (calm_skip rfl) ?_
  simp only [List.setIfInBounds_toArray, List.set_cons_zero, List.set_cons_succ]
  refine calm_to (i := 23) (t := 26) (v := undef) rfl rfl (by kernel_rfl) (by kernel_rfl) (by kernel_rfl) (fun _ _ _ h => h) (calm_skip rfl) ?_
  simp only [List.setIfInBounds_toArray, List.set_cons_zero, List.set_cons_succ]
  refine calm_to (i := 24) (t := 27) (v := undef) rfl rfl (by kernel_rfl) (by kernel_rfl) (by kernel_rfl) (fun _ _ _ h => h) (calm_skip rfl) ?_
  simp only [List.setIfInBounds_toArray, List.set_cons_zero, List.set_cons_succ]
  refine calm_to (i := 25) (t := 28) (v := .bool false) rfl rfl (by kernel_rfl) (by kernel_rfl) (by kernel_rfl) (fun _ _ _ h => h) (calm_pick rfl (.tmp 24) (.tmp 27) (.const (.bool false)) rfl false rfl rfl) ?_
  simp only [List.setIfInBounds_toArray, List.set_cons_zero, List.set_cons_succ]
  refine calm_to (i := 26) (t := 29) (v := .bool false) rfl rfl (by kernel_rfl) (by kernel_rfl) (by kernel_rfl) (fun _ _ _ h => h) (calm_move rfl (.tmp 28) (.inl rfl) rfl) ?_
  simp only [List.setIfInBounds_toArray, List.set_cons_zero, List.set_cons_succ]
  refine calm_to (i := 27) (t := 30) (v := undef) rfl rfl (by kernel_rfl) (by kernel_rfl) (by kernel_rfl) (fun _ _ _ h => h) (calm_skip rfl) ?_
  simp only [List.setIfInBounds_toArray, List.set_cons_zero, List.set_cons_succ]
  refine calm_to (i := 28) (t := 31) (v := undef) rfl rfl (by kernel_rfl) (by kernel_rfl) (by kernel_rfl) (fun _ _ _ h => h) (calm_skip rfl) ?_
  simp only [List.setIfInBounds_toArray, List.set_cons_zero, List.set_cons_succ]
  refine calm_to (i := 29) (t := 32) (v := undef) rfl rfl (by kernel_rfl) (by kernel_rfl) (by kernel_rfl) (fun _ _ _ h => h) (calm_skip rfl) ?_
  simp only [List.setIfInBounds_toArray, List.set_cons_zero, List.set_cons_succ]
  refine calm_to (i := 30) (t := 33) (v := .bool false) rfl rfl (by kernel_rfl) (by kernel_rfl) (by kernel_rfl) (fun _ _ _ h => h) (calm_pick rfl (.tmp 29) (.tmp 32) (.const (.bool false)) rfl false rfl rfl) ?_
  simp only [List.setIfInBounds_toArray, List.set_cons_zero, List.set_cons_succ]
  refine calm_to (i := 31) (t := 2) (v := .bool false) rfl rfl (by kernel_rfl) (by kernel_rfl) (by kernel_rfl) (fun _ _ _ h => h) (calm_move rfl (.tmp 33) (.inr rfl) rfl) ?_
  simp only [List.setIfInBounds_toArray, List.set_cons_zero, List.set_cons_succ]
  refine calm_done (by kernel_rfl) ?_ _
  intro U hU
  have BU := Lib.hid (below3 B0.out hU)
  clear hU k0
  go_wp2
  go_ret
  exact ⟨rfl, BU.out⟩

theorem may_2 (hk hp hx ht hb : Int) (hw : Bool) (hs : Int) (w : World) (g0 : (0 ≤ hp)) (g1 : (hp < pcsF hk)) (g2 : ¬ (cntOk ht (-1))) : Calls Try.prog 22 #[.agg #[.int .i64 hk, .int .i64 hp, .int .i64 hx, .int .i64 ht, .int .i64 hb, .bool hw, .int .i64 hs]] w (RetB (.bool false) w) := by
  have B0 := Lib.hid ((Below.refl w.heap.size w).alloc (Nat.le_refl _) (.cells #[.int .i64 hk, .int .i64 hp, .int .i64 hx, .int .i64 ht, .int .i64 hb, .bool hw, .int .i64 hs] 27))
  have k0 := Lib.hid (Bk.new w 27 #[.int .i64 hk, .int .i64 hp, .int .i64 hx, .int .i64 ht, .int .i64 hb, .bool hw, .int .i64 hs])
  have d2 : decide (cntOk ht (-1)) = false := decide_eq_false g2
  go_enter Try.func22, Try.ntmps22
  go_wp2_with fail
  refine calm_region (S := fun U => Below (w.alloc (.cells #[.int .i64 hk, .int .i64 hp, .int .i64 hx, .int .i64 ht, .int .i64 hb, .bool hw, .int .i64 hs] 27)).heap.size (w.alloc (.cells #[.int .i64 hk, .int .i64 hp, .int .i64 hx, .int .i64 ht, .int .i64 hb, .bool hw, .int .i64 hs] 27)) U) (by kernel_rfl) (Below.refl _ _).drew ?_
  refine calm_to (i := 0) (t := 3) (v := .pointer (some ⟨w.heap.size, 1, none⟩)) rfl rfl (by kernel_rfl) (by kernel_rfl) (by kernel_rfl) (fun _ _ _ h => h) (calm_of rfl (fun U _ => by go_simp)) ?_
  simp only [List.setIfInBounds_toArray, List.set_cons_zero, List.set_cons_succ]
  refine calm_to (i := 1) (t := 4) (v := .int .i64 hp) rfl rfl (by kernel_rfl) (by kernel_rfl) (by kernel_rfl) (fun _ _ _ h => h) (calm_of rfl (fun U hU => by have h7 : _ = some (Value.int .i64 hp) := (k0.out.below hU k0.out.lt).cell 1; go_simp)) ?_
  simp only [List.setIfInBounds_toArray, List.set_cons_zero, List.set_cons_succ]
  refine calm_to (i := 2) (t := 5) (v := .bool true) rfl rfl (by kernel_rfl) (by kernel_rfl) (by kernel_rfl) (fun _ _ _ h => h) (calm_of rfl (fun U _ => by go_simp)) ?_
  simp only [List.setIfInBounds_toArray, List.set_cons_zero, List.set_cons_succ]
  refine calm_to (i := 3) (t := 6) (v := .bool true) rfl rfl (by kernel_rfl) (by kernel_rfl) (by kernel_rfl) (fun _ _ _ h => h) (calm_move rfl (.tmp 5) (.inl rfl) rfl) ?_
  simp only [List.setIfInBounds_toArray, List.set_cons_zero, List.set_cons_succ]
  refine calm_to (i := 4) (t := 7) (v := .pointer (some ⟨w.heap.size, 1, none⟩)) rfl rfl (by kernel_rfl) (by kernel_rfl) (by kernel_rfl) (fun _ _ _ h => h) (calm_of rfl (fun U _ => by go_simp)) ?_
  simp only [List.setIfInBounds_toArray, List.set_cons_zero, List.set_cons_succ]
  refine calm_to (i := 5) (t := 8) (v := .int .i64 hp) rfl rfl (by kernel_rfl) (by kernel_rfl) (by kernel_rfl) (fun _ _ _ h => h) (calm_of rfl (fun U hU => by have h7 : _ = some (Value.int .i64 hp) := (k0.out.below hU k0.out.lt).cell 1; go_simp)) ?_
  simp only [List.setIfInBounds_toArray, List.set_cons_zero, List.set_cons_succ]
  refine calm_to (i := 6) (t := 9) (v := .pointer (some ⟨w.heap.size, 0, none⟩)) rfl rfl (by kernel_rfl) (by kernel_rfl) (by kernel_rfl) (fun _ _ _ h => h) (calm_of rfl (fun U _ => by go_simp)) ?_
  simp only [List.setIfInBounds_toArray, List.set_cons_zero, List.set_cons_succ]
  refine calm_to (i := 7) (t := 10) (v := .int .i64 hk) rfl rfl (by kernel_rfl) (by kernel_rfl) (by kernel_rfl) (fun _ _ _ h => h) (calm_of rfl (fun U hU => by have h7 : _ = some (Value.int .i64 hk) := (k0.out.below hU k0.out.lt).cell 0; go_simp)) ?_
  simp only [List.setIfInBounds_toArray, List.set_cons_zero, List.set_cons_succ]
  refine calm_to (i := 8) (t := 11) (v := .int .i64 (pcsF hk)) rfl rfl (by kernel_rfl) (by kernel_rfl) (by kernel_rfl) (fun _ _ _ h => h) (calm_call1 rfl 28 (.tmp 10) #[3] rfl (enters_of Try.func28 (by kernel_rfl) rfl) (.int .i64 hk) rfl (fun U hU => (pcs_any hk U).mono fun _ _ hh => ⟨hh.1, hU.trans (hh.2.mono hU.size)⟩)) ?_
  simp only [List.setIfInBounds_toArray, List.set_cons_zero, List.set_cons_succ]
  refine calm_to (i := 9) (t := 12) (v := .bool true) rfl rfl (by kernel_rfl) (by kernel_rfl) (by kernel_rfl) (fun _ _ _ h => h) (calm_of rfl (fun U _ => by go_simp)) ?_
  simp only [List.setIfInBounds_toArray, List.set_cons_zero, List.set_cons_succ]
  refine calm_to (i := 10) (t := 13) (v := .bool true) rfl rfl (by kernel_rfl) (by kernel_rfl) (by kernel_rfl) (fun _ _ _ h => h) (calm_pick rfl (.tmp 6) (.tmp 12) (.const (.bool false)) rfl true rfl rfl) ?_
  simp only [List.setIfInBounds_toArray, List.set_cons_zero, List.set_cons_succ]
  refine calm_to (i := 11) (t := 14) (v := .bool true) rfl rfl (by kernel_rfl) (by kernel_rfl) (by kernel_rfl) (fun _ _ _ h => h) (calm_move rfl (.tmp 13) (.inl rfl) rfl) ?_
  simp only [List.setIfInBounds_toArray, List.set_cons_zero, List.set_cons_succ]
  refine calm_to (i := 12) (t := 15) (v := .pointer (some ⟨w.heap.size, 3, none⟩)) rfl rfl (by kernel_rfl) (by kernel_rfl) (by kernel_rfl) (fun _ _ _ h => h) (calm_of rfl (fun U _ => by go_simp)) ?_
  simp only [List.setIfInBounds_toArray, List.set_cons_zero, List.set_cons_succ]
  refine calm_to (i := 13) (t := 16) (v := .int .i64 ht) rfl rfl (by kernel_rfl) (by kernel_rfl) (by kernel_rfl) (fun _ _ _ h => h) (calm_of rfl (fun U hU => by have h7 : _ = some (Value.int .i64 ht) := (k0.out.below hU k0.out.lt).cell 3; go_simp)) ?_
  simp only [List.setIfInBounds_toArray, List.set_cons_zero, List.set_cons_succ]
  refine calm_to (i := 14) (t := 17) (v := .bool false) rfl rfl (by kernel_rfl) (by kernel_rfl) (by kernel_rfl) (fun _ _ _ h => h) (calm_call2 rfl 31 (.tmp 16) (.const (.int .i64 (-1))) #[2, 2] rfl (enters_of Try.func31 (by kernel_rfl) rfl) (.int .i64 ht) (.int .i64 (-1)) rfl rfl (fun U hU => (d2 ▸ count_any ht (-1) U).mono fun _ _ hh => ⟨hh.1, hU.trans (hh.2.mono hU.size)⟩)) ?_
  simp only [List.setIfInBounds_toArray, List.set_cons_zero, List.set_cons_succ]
  refine calm_to (i := 15) (t := 18) (v := .bool false) rfl rfl (by kernel_rfl) (by kernel_rfl) (by kernel_rfl) (fun _ _ _ h => h) (calm_pick rfl (.tmp 14) (.tmp 17) (.const (.bool false)) rfl true rfl rfl) ?_
  simp only [List.setIfInBounds_toArray, List.set_cons_zero, List.set_cons_succ]
  refine calm_to (i := 16) (t := 19) (v := .bool false) rfl rfl (by kernel_rfl) (by kernel_rfl) (by kernel_rfl) (fun _ _ _ h => h) (calm_move rfl (.tmp 18) (.inl rfl) rfl) ?_
  simp only [List.setIfInBounds_toArray, List.set_cons_zero, List.set_cons_succ]
  refine calm_to (i := 17) (t := 20) (v := undef) rfl rfl (by kernel_rfl) (by kernel_rfl) (by kernel_rfl) (fun _ _ _ h => h) (calm_skip rfl) ?_
  simp only [List.setIfInBounds_toArray, List.set_cons_zero, List.set_cons_succ]
  refine calm_to (i := 18) (t := 21) (v := undef) rfl rfl (by kernel_rfl) (by kernel_rfl) (by kernel_rfl) (fun _ _ _ h => h) (calm_skip rfl) ?_
  simp only [List.setIfInBounds_toArray, List.set_cons_zero, List.set_cons_succ]
  refine calm_to (i := 19) (t := 22) (v := undef) rfl rfl (by kernel_rfl) (by kernel_rfl) (by kernel_rfl) (fun _ _ _ h => h) (calm_skip rfl) ?_
  simp only [List.setIfInBounds_toArray, List.set_cons_zero, List.set_cons_succ]
  refine calm_to (i := 20) (t := 23) (v := .bool false) rfl rfl (by kernel_rfl) (by kernel_rfl) (by kernel_rfl) (fun _ _ _ h => h) (calm_pick rfl (.tmp 19) (.tmp 22) (.const (.bool false)) rfl false rfl rfl) ?_
  simp only [List.setIfInBounds_toArray, List.set_cons_zero, List.set_cons_succ]
  refine calm_to (i := 21) (t := 24) (v := .bool false) rfl rfl (by kernel_rfl) (by kernel_rfl) (by kernel_rfl) (fun _ _ _ h => h) (calm_move rfl (.tmp 23) (.inl rfl) rfl) ?_
  simp only [List.setIfInBounds_toArray, List.set_cons_zero, List.set_cons_succ]
  refine calm_to (i := 22) (t := 25) (v := undef) rfl rfl (by kernel_rfl) (by kernel_rfl) (by kernel_rfl) (fun _ _ _ h => h) (calm_skip rfl) ?_
  simp only [List.setIfInBounds_toArray, List.set_cons_zero, List.set_cons_succ]
  refine calm_to (i := 23) (t := 26) (v := undef) rfl rfl (by kernel_rfl) (by kernel_rfl) (by kernel_rfl) (fun _ _ _ h => h) (calm_skip rfl) ?_
  simp only [List.setIfInBounds_toArray, List.set_cons_zero, List.set_cons_succ]
  refine calm_to (i := 24) (t := 27) (v := undef) rfl rfl (by kernel_rfl) (by kernel_rfl) (by kernel_rfl) (fun _ _ _ h => h) (calm_skip rfl) ?_
  simp only [List.setIfInBounds_toArray, List.set_cons_zero, List.set_cons_succ]
  refine calm_to (i := 25) (t := 28) (v := .bool false) rfl rfl (by kernel_rfl) (by kernel_rfl) (by kernel_rfl) (fun _ _ _ h => h) (calm_pick rfl (.tmp 24) (.tmp 27) (.const (.bool false)) rfl false rfl rfl) ?_
  simp only [List.setIfInBounds_toArray, List.set_cons_zero, List.set_cons_succ]
  refine calm_to (i := 26) (t := 29) (v := .bool false) rfl rfl (by kernel_rfl) (by kernel_rfl) (by kernel_rfl) (fun _ _ _ h => h) (calm_move rfl (.tmp 28) (.inl rfl) rfl) ?_
  simp only [List.setIfInBounds_toArray, List.set_cons_zero, List.set_cons_succ]
  refine calm_to (i := 27) (t := 30) (v := undef) rfl rfl (by kernel_rfl) (by kernel_rfl) (by kernel_rfl) (fun _ _ _ h => h) (calm_skip rfl) ?_
  simp only [List.setIfInBounds_toArray, List.set_cons_zero, List.set_cons_succ]
  refine calm_to (i := 28) (t := 31) (v := undef) rfl rfl (by kernel_rfl) (by kernel_rfl) (by kernel_rfl) (fun _ _ _ h => h) (calm_skip rfl) ?_
  simp only [List.setIfInBounds_toArray, List.set_cons_zero, List.set_cons_succ]
  refine calm_to (i := 29) (t := 32) (v := undef) rfl rfl (by kernel_rfl) (by kernel_rfl) (by kernel_rfl) (fun _ _ _ h => h) (calm_skip rfl) ?_
  simp only [List.setIfInBounds_toArray, List.set_cons_zero, List.set_cons_succ]
  refine calm_to (i := 30) (t := 33) (v := .bool false) rfl rfl (by kernel_rfl) (by kernel_rfl) (by kernel_rfl) (fun _ _ _ h => h) (calm_pick rfl (.tmp 29) (.tmp 32) (.const (.bool false)) rfl false rfl rfl) ?_
  simp only [List.setIfInBounds_toArray, List.set_cons_zero, List.set_cons_succ]
  refine calm_to (i := 31) (t := 2) (v := .bool false) rfl rfl (by kernel_rfl) (by kernel_rfl) (by kernel_rfl) (fun _ _ _ h => h) (calm_move rfl (.tmp 33) (.inr rfl) rfl) ?_
  simp only [List.setIfInBounds_toArray, List.set_cons_zero, List.set_cons_succ]
  refine calm_done (by kernel_rfl) ?_ _
  intro U hU
  have BU := Lib.hid (below3 B0.out hU)
  clear hU k0
  go_wp2
  go_ret
  exact ⟨rfl, BU.out⟩

theorem may_3 (hk hp hx ht hb : Int) (hw : Bool) (hs : Int) (w : World) (g0 : (0 ≤ hp)) (g1 : (hp < pcsF hk)) (g2 : (cntOk ht (-1))) (g3 : ¬ (cntOk hb (-1))) : Calls Try.prog 22 #[.agg #[.int .i64 hk, .int .i64 hp, .int .i64 hx, .int .i64 ht, .int .i64 hb, .bool hw, .int .i64 hs]] w (RetB (.bool false) w) := by
  have B0 := Lib.hid ((Below.refl w.heap.size w).alloc (Nat.le_refl _) (.cells #[.int .i64 hk, .int .i64 hp, .int .i64 hx, .int .i64 ht, .int .i64 hb, .bool hw, .int .i64 hs] 27))
  have k0 := Lib.hid (Bk.new w 27 #[.int .i64 hk, .int .i64 hp, .int .i64 hx, .int .i64 ht, .int .i64 hb, .bool hw, .int .i64 hs])
  have d2 : decide (cntOk ht (-1)) = true := decide_eq_true g2
  have d3 : decide (cntOk hb (-1)) = false := decide_eq_false g3
  go_enter Try.func22, Try.ntmps22
  go_wp2_with fail
  refine calm_region (S := fun U => Below (w.alloc (.cells #[.int .i64 hk, .int .i64 hp, .int .i64 hx, .int .i64 ht, .int .i64 hb, .bool hw, .int .i64 hs] 27)).heap.size (w.alloc (.cells #[.int .i64 hk, .int .i64 hp, .int .i64 hx, .int .i64 ht, .int .i64 hb, .bool hw, .int .i64 hs] 27)) U) (by kernel_rfl) (Below.refl _ _).drew ?_
  refine calm_to (i := 0) (t := 3) (v := .pointer (some ⟨w.heap.size, 1, none⟩)) rfl rfl (by kernel_rfl) (by kernel_rfl) (by kernel_rfl) (fun _ _ _ h => h) (calm_of rfl (fun U _ => by go_simp)) ?_
  simp only [List.setIfInBounds_toArray, List.set_cons_zero, List.set_cons_succ]
  refine calm_to (i := 1) (t := 4) (v := .int .i64 hp) rfl rfl (by kernel_rfl) (by kernel_rfl) (by kernel_rfl) (fun _ _ _ h => h) (calm_of rfl (fun U hU => by have h7 : _ = some (Value.int .i64 hp) := (k0.out.below hU k0.out.lt).cell 1; go_simp)) ?_
  simp only [List.setIfInBounds_toArray, List.set_cons_zero, List.set_cons_succ]
  refine calm_to (i := 2) (t := 5) (v := .bool true) rfl rfl (by kernel_rfl) (by kernel_rfl) (by kernel_rfl) (fun _ _ _ h => h) (calm_of rfl (fun U _ => by go_simp)) ?_
  simp only [List.setIfInBounds_toArray, List.set_cons_zero, List.set_cons_succ]
  refine calm_to (i := 3) (t := 6) (v := .bool true) rfl rfl (by kernel_rfl) (by kernel_rfl) (by kernel_rfl) (fun _ _ _ h => h) (calm_move rfl (.tmp 5) (.inl rfl) rfl) ?_
  simp only [List.setIfInBounds_toArray, List.set_cons_zero, List.set_cons_succ]
  refine calm_to (i := 4) (t := 7) (v := .pointer (some ⟨w.heap.size, 1, none⟩)) rfl rfl (by kernel_rfl) (by kernel_rfl) (by kernel_rfl) (fun _ _ _ h => h) (calm_of rfl (fun U _ => by go_simp)) ?_
  simp only [List.setIfInBounds_toArray, List.set_cons_zero, List.set_cons_succ]
  refine calm_to (i := 5) (t := 8) (v := .int .i64 hp) rfl rfl (by kernel_rfl) (by kernel_rfl) (by kernel_rfl) (fun _ _ _ h => h) (calm_of rfl (fun U hU => by have h7 : _ = some (Value.int .i64 hp) := (k0.out.below hU k0.out.lt).cell 1; go_simp)) ?_
  simp only [List.setIfInBounds_toArray, List.set_cons_zero, List.set_cons_succ]
  refine calm_to (i := 6) (t := 9) (v := .pointer (some ⟨w.heap.size, 0, none⟩)) rfl rfl (by kernel_rfl) (by kernel_rfl) (by kernel_rfl) (fun _ _ _ h => h) (calm_of rfl (fun U _ => by go_simp)) ?_
  simp only [List.setIfInBounds_toArray, List.set_cons_zero, List.set_cons_succ]
  refine calm_to (i := 7) (t := 10) (v := .int .i64 hk) rfl rfl (by kernel_rfl) (by kernel_rfl) (by kernel_rfl) (fun _ _ _ h => h) (calm_of rfl (fun U hU => by have h7 : _ = some (Value.int .i64 hk) := (k0.out.below hU k0.out.lt).cell 0; go_simp)) ?_
  simp only [List.setIfInBounds_toArray, List.set_cons_zero, List.set_cons_succ]
  refine calm_to (i := 8) (t := 11) (v := .int .i64 (pcsF hk)) rfl rfl (by kernel_rfl) (by kernel_rfl) (by kernel_rfl) (fun _ _ _ h => h) (calm_call1 rfl 28 (.tmp 10) #[3] rfl (enters_of Try.func28 (by kernel_rfl) rfl) (.int .i64 hk) rfl (fun U hU => (pcs_any hk U).mono fun _ _ hh => ⟨hh.1, hU.trans (hh.2.mono hU.size)⟩)) ?_
  simp only [List.setIfInBounds_toArray, List.set_cons_zero, List.set_cons_succ]
  refine calm_to (i := 9) (t := 12) (v := .bool true) rfl rfl (by kernel_rfl) (by kernel_rfl) (by kernel_rfl) (fun _ _ _ h => h) (calm_of rfl (fun U _ => by go_simp)) ?_
  simp only [List.setIfInBounds_toArray, List.set_cons_zero, List.set_cons_succ]
  refine calm_to (i := 10) (t := 13) (v := .bool true) rfl rfl (by kernel_rfl) (by kernel_rfl) (by kernel_rfl) (fun _ _ _ h => h) (calm_pick rfl (.tmp 6) (.tmp 12) (.const (.bool false)) rfl true rfl rfl) ?_
  simp only [List.setIfInBounds_toArray, List.set_cons_zero, List.set_cons_succ]
  refine calm_to (i := 11) (t := 14) (v := .bool true) rfl rfl (by kernel_rfl) (by kernel_rfl) (by kernel_rfl) (fun _ _ _ h => h) (calm_move rfl (.tmp 13) (.inl rfl) rfl) ?_
  simp only [List.setIfInBounds_toArray, List.set_cons_zero, List.set_cons_succ]
  refine calm_to (i := 12) (t := 15) (v := .pointer (some ⟨w.heap.size, 3, none⟩)) rfl rfl (by kernel_rfl) (by kernel_rfl) (by kernel_rfl) (fun _ _ _ h => h) (calm_of rfl (fun U _ => by go_simp)) ?_
  simp only [List.setIfInBounds_toArray, List.set_cons_zero, List.set_cons_succ]
  refine calm_to (i := 13) (t := 16) (v := .int .i64 ht) rfl rfl (by kernel_rfl) (by kernel_rfl) (by kernel_rfl) (fun _ _ _ h => h) (calm_of rfl (fun U hU => by have h7 : _ = some (Value.int .i64 ht) := (k0.out.below hU k0.out.lt).cell 3; go_simp)) ?_
  simp only [List.setIfInBounds_toArray, List.set_cons_zero, List.set_cons_succ]
  refine calm_to (i := 14) (t := 17) (v := .bool true) rfl rfl (by kernel_rfl) (by kernel_rfl) (by kernel_rfl) (fun _ _ _ h => h) (calm_call2 rfl 31 (.tmp 16) (.const (.int .i64 (-1))) #[2, 2] rfl (enters_of Try.func31 (by kernel_rfl) rfl) (.int .i64 ht) (.int .i64 (-1)) rfl rfl (fun U hU => (d2 ▸ count_any ht (-1) U).mono fun _ _ hh => ⟨hh.1, hU.trans (hh.2.mono hU.size)⟩)) ?_
  simp only [List.setIfInBounds_toArray, List.set_cons_zero, List.set_cons_succ]
  refine calm_to (i := 15) (t := 18) (v := .bool true) rfl rfl (by kernel_rfl) (by kernel_rfl) (by kernel_rfl) (fun _ _ _ h => h) (calm_pick rfl (.tmp 14) (.tmp 17) (.const (.bool false)) rfl true rfl rfl) ?_
  simp only [List.setIfInBounds_toArray, List.set_cons_zero, List.set_cons_succ]
  refine calm_to (i := 16) (t := 19) (v := .bool true) rfl rfl (by kernel_rfl) (by kernel_rfl) (by kernel_rfl) (fun _ _ _ h => h) (calm_move rfl (.tmp 18) (.inl rfl) rfl) ?_
  simp only [List.setIfInBounds_toArray, List.set_cons_zero, List.set_cons_succ]
  refine calm_to (i := 17) (t := 20) (v := .pointer (some ⟨w.heap.size, 4, none⟩)) rfl rfl (by kernel_rfl) (by kernel_rfl) (by kernel_rfl) (fun _ _ _ h => h) (calm_of rfl (fun U _ => by go_simp)) ?_
  simp only [List.setIfInBounds_toArray, List.set_cons_zero, List.set_cons_succ]
  refine calm_to (i := 18) (t := 21) (v := .int .i64 hb) rfl rfl (by kernel_rfl) (by kernel_rfl) (by kernel_rfl) (fun _ _ _ h => h) (calm_of rfl (fun U hU => by have h7 : _ = some (Value.int .i64 hb) := (k0.out.below hU k0.out.lt).cell 4; go_simp)) ?_
  simp only [List.setIfInBounds_toArray, List.set_cons_zero, List.set_cons_succ]
  refine calm_to (i := 19) (t := 22) (v := .bool false) rfl rfl (by kernel_rfl) (by kernel_rfl) (by kernel_rfl) (fun _ _ _ h => h) (calm_call2 rfl 31 (.tmp 21) (.const (.int .i64 (-1))) #[2, 2] rfl (enters_of Try.func31 (by kernel_rfl) rfl) (.int .i64 hb) (.int .i64 (-1)) rfl rfl (fun U hU => (d3 ▸ count_any hb (-1) U).mono fun _ _ hh => ⟨hh.1, hU.trans (hh.2.mono hU.size)⟩)) ?_
  simp only [List.setIfInBounds_toArray, List.set_cons_zero, List.set_cons_succ]
  refine calm_to (i := 20) (t := 23) (v := .bool false) rfl rfl (by kernel_rfl) (by kernel_rfl) (by kernel_rfl) (fun _ _ _ h => h) (calm_pick rfl (.tmp 19) (.tmp 22) (.const (.bool false)) rfl true rfl rfl) ?_
  simp only [List.setIfInBounds_toArray, List.set_cons_zero, List.set_cons_succ]
  refine calm_to (i := 21) (t := 24) (v := .bool false) rfl rfl (by kernel_rfl) (by kernel_rfl) (by kernel_rfl) (fun _ _ _ h => h) (calm_move rfl (.tmp 23) (.inl rfl) rfl) ?_
  simp only [List.setIfInBounds_toArray, List.set_cons_zero, List.set_cons_succ]
  refine calm_to (i := 22) (t := 25) (v := undef) rfl rfl (by kernel_rfl) (by kernel_rfl) (by kernel_rfl) (fun _ _ _ h => h) (calm_skip rfl) ?_
  simp only [List.setIfInBounds_toArray, List.set_cons_zero, List.set_cons_succ]
  refine calm_to (i := 23) (t := 26) (v := undef) rfl rfl (by kernel_rfl) (by kernel_rfl) (by kernel_rfl) (fun _ _ _ h => h) (calm_skip rfl) ?_
  simp only [List.setIfInBounds_toArray, List.set_cons_zero, List.set_cons_succ]
  refine calm_to (i := 24) (t := 27) (v := undef) rfl rfl (by kernel_rfl) (by kernel_rfl) (by kernel_rfl) (fun _ _ _ h => h) (calm_skip rfl) ?_
  simp only [List.setIfInBounds_toArray, List.set_cons_zero, List.set_cons_succ]
  refine calm_to (i := 25) (t := 28) (v := .bool false) rfl rfl (by kernel_rfl) (by kernel_rfl) (by kernel_rfl) (fun _ _ _ h => h) (calm_pick rfl (.tmp 24) (.tmp 27) (.const (.bool false)) rfl false rfl rfl) ?_
  simp only [List.setIfInBounds_toArray, List.set_cons_zero, List.set_cons_succ]
  refine calm_to (i := 26) (t := 29) (v := .bool false) rfl rfl (by kernel_rfl) (by kernel_rfl) (by kernel_rfl) (fun _ _ _ h => h) (calm_move rfl (.tmp 28) (.inl rfl) rfl) ?_
  simp only [List.setIfInBounds_toArray, List.set_cons_zero, List.set_cons_succ]
  refine calm_to (i := 27) (t := 30) (v := undef) rfl rfl (by kernel_rfl) (by kernel_rfl) (by kernel_rfl) (fun _ _ _ h => h) (calm_skip rfl) ?_
  simp only [List.setIfInBounds_toArray, List.set_cons_zero, List.set_cons_succ]
  refine calm_to (i := 28) (t := 31) (v := undef) rfl rfl (by kernel_rfl) (by kernel_rfl) (by kernel_rfl) (fun _ _ _ h => h) (calm_skip rfl) ?_
  simp only [List.setIfInBounds_toArray, List.set_cons_zero, List.set_cons_succ]
  refine calm_to (i := 29) (t := 32) (v := undef) rfl rfl (by kernel_rfl) (by kernel_rfl) (by kernel_rfl) (fun _ _ _ h => h) (calm_skip rfl) ?_
  simp only [List.setIfInBounds_toArray, List.set_cons_zero, List.set_cons_succ]
  refine calm_to (i := 30) (t := 33) (v := .bool false) rfl rfl (by kernel_rfl) (by kernel_rfl) (by kernel_rfl) (fun _ _ _ h => h) (calm_pick rfl (.tmp 29) (.tmp 32) (.const (.bool false)) rfl false rfl rfl) ?_
  simp only [List.setIfInBounds_toArray, List.set_cons_zero, List.set_cons_succ]
  refine calm_to (i := 31) (t := 2) (v := .bool false) rfl rfl (by kernel_rfl) (by kernel_rfl) (by kernel_rfl) (fun _ _ _ h => h) (calm_move rfl (.tmp 33) (.inr rfl) rfl) ?_
  simp only [List.setIfInBounds_toArray, List.set_cons_zero, List.set_cons_succ]
  refine calm_done (by kernel_rfl) ?_ _
  intro U hU
  have BU := Lib.hid (below3 B0.out hU)
  clear hU k0
  go_wp2
  go_ret
  exact ⟨rfl, BU.out⟩

theorem may_4 (hk hp hx ht hb : Int) (hw : Bool) (hs : Int) (w : World) (g0 : (0 ≤ hp)) (g1 : (hp < pcsF hk)) (g2 : (cntOk ht (-1))) (g3 : (cntOk hb (-1))) (g4 : ¬ (0 ≤ hs)) : Calls Try.prog 22 #[.agg #[.int .i64 hk, .int .i64 hp, .int .i64 hx, .int .i64 ht, .int .i64 hb, .bool hw, .int .i64 hs]] w (RetB (.bool false) w) := by
  have B0 := Lib.hid ((Below.refl w.heap.size w).alloc (Nat.le_refl _) (.cells #[.int .i64 hk, .int .i64 hp, .int .i64 hx, .int .i64 ht, .int .i64 hb, .bool hw, .int .i64 hs] 27))
  have k0 := Lib.hid (Bk.new w 27 #[.int .i64 hk, .int .i64 hp, .int .i64 hx, .int .i64 ht, .int .i64 hb, .bool hw, .int .i64 hs])
  have d2 : decide (cntOk ht (-1)) = true := decide_eq_true g2
  have d3 : decide (cntOk hb (-1)) = true := decide_eq_true g3
  go_enter Try.func22, Try.ntmps22
  go_wp2_with fail
  refine calm_region (S := fun U => Below (w.alloc (.cells #[.int .i64 hk, .int .i64 hp, .int .i64 hx, .int .i64 ht, .int .i64 hb, .bool hw, .int .i64 hs] 27)).heap.size (w.alloc (.cells #[.int .i64 hk, .int .i64 hp, .int .i64 hx, .int .i64 ht, .int .i64 hb, .bool hw, .int .i64 hs] 27)) U) (by kernel_rfl) (Below.refl _ _).drew ?_
  refine calm_to (i := 0) (t := 3) (v := .pointer (some ⟨w.heap.size, 1, none⟩)) rfl rfl (by kernel_rfl) (by kernel_rfl) (by kernel_rfl) (fun _ _ _ h => h) (calm_of rfl (fun U _ => by go_simp)) ?_
  simp only [List.setIfInBounds_toArray, List.set_cons_zero, List.set_cons_succ]
  refine calm_to (i := 1) (t := 4) (v := .int .i64 hp) rfl rfl (by kernel_rfl) (by kernel_rfl) (by kernel_rfl) (fun _ _ _ h => h) (calm_of rfl (fun U hU => by have h7 : _ = some (Value.int .i64 hp) := (k0.out.below hU k0.out.lt).cell 1; go_simp)) ?_
  simp only [List.setIfInBounds_toArray, List.set_cons_zero, List.set_cons_succ]
  refine calm_to (i := 2) (t := 5) (v := .bool true) rfl rfl (by kernel_rfl) (by kernel_rfl) (by kernel_rfl) (fun _ _ _ h => h) (calm_of rfl (fun U _ => by go_simp)) ?_
  simp only [List.setIfInBounds_toArray, List.set_cons_zero, List.set_cons_succ]
  refine calm_to (i := 3) (t := 6) (v := .bool true) rfl rfl (by kernel_rfl) (by kernel_rfl) (by kernel_rfl) (fun _ _ _ h => h) (calm_move rfl (.tmp 5) (.inl rfl) rfl) ?_
  simp only [List.setIfInBounds_toArray, List.set_cons_zero, List.set_cons_succ]
  refine calm_to (i := 4) (t := 7) (v := .pointer (some ⟨w.heap.size, 1, none⟩)) rfl rfl (by kernel_rfl) (by kernel_rfl) (by kernel_rfl) (fun _ _ _ h => h) (calm_of rfl (fun U _ => by go_simp)) ?_
  simp only [List.setIfInBounds_toArray, List.set_cons_zero, List.set_cons_succ]
  refine calm_to (i := 5) (t := 8) (v := .int .i64 hp) rfl rfl (by kernel_rfl) (by kernel_rfl) (by kernel_rfl) (fun _ _ _ h => h) (calm_of rfl (fun U hU => by have h7 : _ = some (Value.int .i64 hp) := (k0.out.below hU k0.out.lt).cell 1; go_simp)) ?_
  simp only [List.setIfInBounds_toArray, List.set_cons_zero, List.set_cons_succ]
  refine calm_to (i := 6) (t := 9) (v := .pointer (some ⟨w.heap.size, 0, none⟩)) rfl rfl (by kernel_rfl) (by kernel_rfl) (by kernel_rfl) (fun _ _ _ h => h) (calm_of rfl (fun U _ => by go_simp)) ?_
  simp only [List.setIfInBounds_toArray, List.set_cons_zero, List.set_cons_succ]
  refine calm_to (i := 7) (t := 10) (v := .int .i64 hk) rfl rfl (by kernel_rfl) (by kernel_rfl) (by kernel_rfl) (fun _ _ _ h => h) (calm_of rfl (fun U hU => by have h7 : _ = some (Value.int .i64 hk) := (k0.out.below hU k0.out.lt).cell 0; go_simp)) ?_
  simp only [List.setIfInBounds_toArray, List.set_cons_zero, List.set_cons_succ]
  refine calm_to (i := 8) (t := 11) (v := .int .i64 (pcsF hk)) rfl rfl (by kernel_rfl) (by kernel_rfl) (by kernel_rfl) (fun _ _ _ h => h) (calm_call1 rfl 28 (.tmp 10) #[3] rfl (enters_of Try.func28 (by kernel_rfl) rfl) (.int .i64 hk) rfl (fun U hU => (pcs_any hk U).mono fun _ _ hh => ⟨hh.1, hU.trans (hh.2.mono hU.size)⟩)) ?_
  simp only [List.setIfInBounds_toArray, List.set_cons_zero, List.set_cons_succ]
  refine calm_to (i := 9) (t := 12) (v := .bool true) rfl rfl (by kernel_rfl) (by kernel_rfl) (by kernel_rfl) (fun _ _ _ h => h) (calm_of rfl (fun U _ => by go_simp)) ?_
  simp only [List.setIfInBounds_toArray, List.set_cons_zero, List.set_cons_succ]
  refine calm_to (i := 10) (t := 13) (v := .bool true) rfl rfl (by kernel_rfl) (by kernel_rfl) (by kernel_rfl) (fun _ _ _ h => h) (calm_pick rfl (.tmp 6) (.tmp 12) (.const (.bool false)) rfl true rfl rfl) ?_
  simp only [List.setIfInBounds_toArray, List.set_cons_zero, List.set_cons_succ]
  refine calm_to (i := 11) (t := 14) (v := .bool true) rfl rfl (by kernel_rfl) (by kernel_rfl) (by kernel_rfl) (fun _ _ _ h => h) (calm_move rfl (.tmp 13) (.inl rfl) rfl) ?_
  simp only [List.setIfInBounds_toArray, List.set_cons_zero, List.set_cons_succ]
  refine calm_to (i := 12) (t := 15) (v := .pointer (some ⟨w.heap.size, 3, none⟩)) rfl rfl (by kernel_rfl) (by kernel_rfl) (by kernel_rfl) (fun _ _ _ h => h) (calm_of rfl (fun U _ => by go_simp)) ?_
  simp only [List.setIfInBounds_toArray, List.set_cons_zero, List.set_cons_succ]
  refine calm_to (i := 13) (t := 16) (v := .int .i64 ht) rfl rfl (by kernel_rfl) (by kernel_rfl) (by kernel_rfl) (fun _ _ _ h => h) (calm_of rfl (fun U hU => by have h7 : _ = some (Value.int .i64 ht) := (k0.out.below hU k0.out.lt).cell 3; go_simp)) ?_
  simp only [List.setIfInBounds_toArray, List.set_cons_zero, List.set_cons_succ]
  refine calm_to (i := 14) (t := 17) (v := .bool true) rfl rfl (by kernel_rfl) (by kernel_rfl) (by kernel_rfl) (fun _ _ _ h => h) (calm_call2 rfl 31 (.tmp 16) (.const (.int .i64 (-1))) #[2, 2] rfl (enters_of Try.func31 (by kernel_rfl) rfl) (.int .i64 ht) (.int .i64 (-1)) rfl rfl (fun U hU => (d2 ▸ count_any ht (-1) U).mono fun _ _ hh => ⟨hh.1, hU.trans (hh.2.mono hU.size)⟩)) ?_
  simp only [List.setIfInBounds_toArray, List.set_cons_zero, List.set_cons_succ]
  refine calm_to (i := 15) (t := 18) (v := .bool true) rfl rfl (by kernel_rfl) (by kernel_rfl) (by kernel_rfl) (fun _ _ _ h => h) (calm_pick rfl (.tmp 14) (.tmp 17) (.const (.bool false)) rfl true rfl rfl) ?_
  simp only [List.setIfInBounds_toArray, List.set_cons_zero, List.set_cons_succ]
  refine calm_to (i := 16) (t := 19) (v := .bool true) rfl rfl (by kernel_rfl) (by kernel_rfl) (by kernel_rfl) (fun _ _ _ h => h) (calm_move rfl (.tmp 18) (.inl rfl) rfl) ?_
  simp only [List.setIfInBounds_toArray, List.set_cons_zero, List.set_cons_succ]
  refine calm_to (i := 17) (t := 20) (v := .pointer (some ⟨w.heap.size, 4, none⟩)) rfl rfl (by kernel_rfl) (by kernel_rfl) (by kernel_rfl) (fun _ _ _ h => h) (calm_of rfl (fun U _ => by go_simp)) ?_
  simp only [List.setIfInBounds_toArray, List.set_cons_zero, List.set_cons_succ]
  refine calm_to (i := 18) (t := 21) (v := .int .i64 hb) rfl rfl (by kernel_rfl) (by kernel_rfl) (by kernel_rfl) (fun _ _ _ h => h) (calm_of rfl (fun U hU => by have h7 : _ = some (Value.int .i64 hb) := (k0.out.below hU k0.out.lt).cell 4; go_simp)) ?_
  simp only [List.setIfInBounds_toArray, List.set_cons_zero, List.set_cons_succ]
  refine calm_to (i := 19) (t := 22) (v := .bool true) rfl rfl (by kernel_rfl) (by kernel_rfl) (by kernel_rfl) (fun _ _ _ h => h) (calm_call2 rfl 31 (.tmp 21) (.const (.int .i64 (-1))) #[2, 2] rfl (enters_of Try.func31 (by kernel_rfl) rfl) (.int .i64 hb) (.int .i64 (-1)) rfl rfl (fun U hU => (d3 ▸ count_any hb (-1) U).mono fun _ _ hh => ⟨hh.1, hU.trans (hh.2.mono hU.size)⟩)) ?_
  simp only [List.setIfInBounds_toArray, List.set_cons_zero, List.set_cons_succ]
  refine calm_to (i := 20) (t := 23) (v := .bool true) rfl rfl (by kernel_rfl) (by kernel_rfl) (by kernel_rfl) (fun _ _ _ h => h) (calm_pick rfl (.tmp 19) (.tmp 22) (.const (.bool false)) rfl true rfl rfl) ?_
  simp only [List.setIfInBounds_toArray, List.set_cons_zero, List.set_cons_succ]
  refine calm_to (i := 21) (t := 24) (v := .bool true) rfl rfl (by kernel_rfl) (by kernel_rfl) (by kernel_rfl) (fun _ _ _ h => h) (calm_move rfl (.tmp 23) (.inl rfl) rfl) ?_
  simp only [List.setIfInBounds_toArray, List.set_cons_zero, List.set_cons_succ]
  refine calm_to (i := 22) (t := 25) (v := .pointer (some ⟨w.heap.size, 6, none⟩)) rfl rfl (by kernel_rfl) (by kernel_rfl) (by kernel_rfl) (fun _ _ _ h => h) (calm_of rfl (fun U _ => by go_simp)) ?_
  simp only [List.setIfInBounds_toArray, List.set_cons_zero, List.set_cons_succ]
  refine calm_to (i := 23) (t := 26) (v := .int .i64 hs) rfl rfl (by kernel_rfl) (by kernel_rfl) (by kernel_rfl) (fun _ _ _ h => h) (calm_of rfl (fun U hU => by have h7 : _ = some (Value.int .i64 hs) := (k0.out.below hU k0.out.lt).cell 6; go_simp)) ?_
  simp only [List.setIfInBounds_toArray, List.set_cons_zero, List.set_cons_succ]
  refine calm_to (i := 24) (t := 27) (v := .bool false) rfl rfl (by kernel_rfl) (by kernel_rfl) (by kernel_rfl) (fun _ _ _ h => h) (calm_of rfl (fun U _ => by go_simp)) ?_
  simp only [List.setIfInBounds_toArray, List.set_cons_zero, List.set_cons_succ]
  refine calm_to (i := 25) (t := 28) (v := .bool false) rfl rfl (by kernel_rfl) (by kernel_rfl) (by kernel_rfl) (fun _ _ _ h => h) (calm_pick rfl (.tmp 24) (.tmp 27) (.const (.bool false)) rfl true rfl rfl) ?_
  simp only [List.setIfInBounds_toArray, List.set_cons_zero, List.set_cons_succ]
  refine calm_to (i := 26) (t := 29) (v := .bool false) rfl rfl (by kernel_rfl) (by kernel_rfl) (by kernel_rfl) (fun _ _ _ h => h) (calm_move rfl (.tmp 28) (.inl rfl) rfl) ?_
  simp only [List.setIfInBounds_toArray, List.set_cons_zero, List.set_cons_succ]
  refine calm_to (i := 27) (t := 30) (v := undef) rfl rfl (by kernel_rfl) (by kernel_rfl) (by kernel_rfl) (fun _ _ _ h => h) (calm_skip rfl) ?_
  simp only [List.setIfInBounds_toArray, List.set_cons_zero, List.set_cons_succ]
  refine calm_to (i := 28) (t := 31) (v := undef) rfl rfl (by kernel_rfl) (by kernel_rfl) (by kernel_rfl) (fun _ _ _ h => h) (calm_skip rfl) ?_
  simp only [List.setIfInBounds_toArray, List.set_cons_zero, List.set_cons_succ]
  refine calm_to (i := 29) (t := 32) (v := undef) rfl rfl (by kernel_rfl) (by kernel_rfl) (by kernel_rfl) (fun _ _ _ h => h) (calm_skip rfl) ?_
  simp only [List.setIfInBounds_toArray, List.set_cons_zero, List.set_cons_succ]
  refine calm_to (i := 30) (t := 33) (v := .bool false) rfl rfl (by kernel_rfl) (by kernel_rfl) (by kernel_rfl) (fun _ _ _ h => h) (calm_pick rfl (.tmp 29) (.tmp 32) (.const (.bool false)) rfl false rfl rfl) ?_
  simp only [List.setIfInBounds_toArray, List.set_cons_zero, List.set_cons_succ]
  refine calm_to (i := 31) (t := 2) (v := .bool false) rfl rfl (by kernel_rfl) (by kernel_rfl) (by kernel_rfl) (fun _ _ _ h => h) (calm_move rfl (.tmp 33) (.inr rfl) rfl) ?_
  simp only [List.setIfInBounds_toArray, List.set_cons_zero, List.set_cons_succ]
  refine calm_done (by kernel_rfl) ?_ _
  intro U hU
  have BU := Lib.hid (below3 B0.out hU)
  clear hU k0
  go_wp2
  go_ret
  exact ⟨rfl, BU.out⟩

theorem may_5 (hk hp hx ht hb : Int) (hw : Bool) (hs : Int) (w : World) (g0 : (0 ≤ hp)) (g1 : (hp < pcsF hk)) (g2 : (cntOk ht (-1))) (g3 : (cntOk hb (-1))) (g4 : (0 ≤ hs)) (g5 : ¬ (hs ≤ 4)) : Calls Try.prog 22 #[.agg #[.int .i64 hk, .int .i64 hp, .int .i64 hx, .int .i64 ht, .int .i64 hb, .bool hw, .int .i64 hs]] w (RetB (.bool false) w) := by
  have B0 := Lib.hid ((Below.refl w.heap.size w).alloc (Nat.le_refl _) (.cells #[.int .i64 hk, .int .i64 hp, .int .i64 hx, .int .i64 ht, .int .i64 hb, .bool hw, .int .i64 hs] 27))
  have k0 := Lib.hid (Bk.new w 27 #[.int .i64 hk, .int .i64 hp, .int .i64 hx, .int .i64 ht, .int .i64 hb, .bool hw, .int .i64 hs])
  have d2 : decide (cntOk ht (-1)) = true := decide_eq_true g2
  have d3 : decide (cntOk hb (-1)) = true := decide_eq_true g3
  go_enter Try.func22, Try.ntmps22
  go_wp2_with fail
  refine calm_region (S := fun U => Below (w.alloc (.cells #[.int .i64 hk, .int .i64 hp, .int .i64 hx, .int .i64 ht, .int .i64 hb, .bool hw, .int .i64 hs] 27)).heap.size (w.alloc (.cells #[.int .i64 hk, .int .i64 hp, .int .i64 hx, .int .i64 ht, .int .i64 hb, .bool hw, .int .i64 hs] 27)) U) (by kernel_rfl) (Below.refl _ _).drew ?_
  refine calm_to (i := 0) (t := 3) (v := .pointer (some ⟨w.heap.size, 1, none⟩)) rfl rfl (by kernel_rfl) (by kernel_rfl) (by kernel_rfl) (fun _ _ _ h => h) (calm_of rfl (fun U _ => by go_simp)) ?_
  simp only [List.setIfInBounds_toArray, List.set_cons_zero, List.set_cons_succ]
  refine calm_to (i := 1) (t := 4) (v := .int .i64 hp) rfl rfl (by kernel_rfl) (by kernel_rfl) (by kernel_rfl) (fun _ _ _ h => h) (calm_of rfl (fun U hU => by have h7 : _ = some (Value.int .i64 hp) := (k0.out.below hU k0.out.lt).cell 1; go_simp)) ?_
  simp only [List.setIfInBounds_toArray, List.set_cons_zero, List.set_cons_succ]
  refine calm_to (i := 2) (t := 5) (v := .bool true) rfl rfl (by kernel_rfl) (by kernel_rfl) (by kernel_rfl) (fun _ _ _ h => h) (calm_of rfl (fun U _ => by go_simp)) ?_
  simp only [List.setIfInBounds_toArray, List.set_cons_zero, List.set_cons_succ]
  refine calm_to (i := 3) (t := 6) (v := .bool true) rfl rfl (by kernel_rfl) (by kernel_rfl) (by kernel_rfl) (fun _ _ _ h => h) (calm_move rfl (.tmp 5) (.inl rfl) rfl) ?_
  simp only [List.setIfInBounds_toArray, List.set_cons_zero, List.set_cons_succ]
  refine calm_to (i := 4) (t := 7) (v := .pointer (some ⟨w.heap.size, 1, none⟩)) rfl rfl (by kernel_rfl) (by kernel_rfl) (by kernel_rfl) (fun _ _ _ h => h) (calm_of rfl (fun U _ => by go_simp)) ?_
  simp only [List.setIfInBounds_toArray, List.set_cons_zero, List.set_cons_succ]
  refine calm_to (i := 5) (t := 8) (v := .int .i64 hp) rfl rfl (by kernel_rfl) (by kernel_rfl) (by kernel_rfl) (fun _ _ _ h => h) (calm_of rfl (fun U hU => by have h7 : _ = some (Value.int .i64 hp) := (k0.out.below hU k0.out.lt).cell 1; go_simp)) ?_
  simp only [List.setIfInBounds_toArray, List.set_cons_zero, List.set_cons_succ]
  refine calm_to (i := 6) (t := 9) (v := .pointer (some ⟨w.heap.size, 0, none⟩)) rfl rfl (by kernel_rfl) (by kernel_rfl) (by kernel_rfl) (fun _ _ _ h => h) (calm_of rfl (fun U _ => by go_simp)) ?_
  simp only [List.setIfInBounds_toArray, List.set_cons_zero, List.set_cons_succ]
  refine calm_to (i := 7) (t := 10) (v := .int .i64 hk) rfl rfl (by kernel_rfl) (by kernel_rfl) (by kernel_rfl) (fun _ _ _ h => h) (calm_of rfl (fun U hU => by have h7 : _ = some (Value.int .i64 hk) := (k0.out.below hU k0.out.lt).cell 0; go_simp)) ?_
  simp only [List.setIfInBounds_toArray, List.set_cons_zero, List.set_cons_succ]
  refine calm_to (i := 8) (t := 11) (v := .int .i64 (pcsF hk)) rfl rfl (by kernel_rfl) (by kernel_rfl) (by kernel_rfl) (fun _ _ _ h => h) (calm_call1 rfl 28 (.tmp 10) #[3] rfl (enters_of Try.func28 (by kernel_rfl) rfl) (.int .i64 hk) rfl (fun U hU => (pcs_any hk U).mono fun _ _ hh => ⟨hh.1, hU.trans (hh.2.mono hU.size)⟩)) ?_
  simp only [List.setIfInBounds_toArray, List.set_cons_zero, List.set_cons_succ]
  refine calm_to (i := 9) (t := 12) (v := .bool true) rfl rfl (by kernel_rfl) (by kernel_rfl) (by kernel_rfl) (fun _ _ _ h => h) (calm_of rfl (fun U _ => by go_simp)) ?_
  simp only [List.setIfInBounds_toArray, List.set_cons_zero, List.set_cons_succ]
  refine calm_to (i := 10) (t := 13) (v := .bool true) rfl rfl (by kernel_rfl) (by kernel_rfl) (by kernel_rfl) (fun _ _ _ h => h) (calm_pick rfl (.tmp 6) (.tmp 12) (.const (.bool false)) rfl true rfl rfl) ?_
  simp only [List.setIfInBounds_toArray, List.set_cons_zero, List.set_cons_succ]
  refine calm_to (i := 11) (t := 14) (v := .bool true) rfl rfl (by kernel_rfl) (by kernel_rfl) (by kernel_rfl) (fun _ _ _ h => h) (calm_move rfl (.tmp 13) (.inl rfl) rfl) ?_
  simp only [List.setIfInBounds_toArray, List.set_cons_zero, List.set_cons_succ]
  refine calm_to (i := 12) (t := 15) (v := .pointer (some ⟨w.heap.size, 3, none⟩)) rfl rfl (by kernel_rfl) (by kernel_rfl) (by kernel_rfl) (fun _ _ _ h => h) (calm_of rfl (fun U _ => by go_simp)) ?_
  simp only [List.setIfInBounds_toArray, List.set_cons_zero, List.set_cons_succ]
  refine calm_to (i := 13) (t := 16) (v := .int .i64 ht) rfl rfl (by kernel_rfl) (by kernel_rfl) (by kernel_rfl) (fun _ _ _ h => h) (calm_of rfl (fun U hU => by have h7 : _ = some (Value.int .i64 ht) := (k0.out.below hU k0.out.lt).cell 3; go_simp)) ?_
  simp only [List.setIfInBounds_toArray, List.set_cons_zero, List.set_cons_succ]
  refine calm_to (i := 14) (t := 17) (v := .bool true) rfl rfl (by kernel_rfl) (by kernel_rfl) (by kernel_rfl) (fun _ _ _ h => h) (calm_call2 rfl 31 (.tmp 16) (.const (.int .i64 (-1))) #[2, 2] rfl (enters_of Try.func31 (by kernel_rfl) rfl) (.int .i64 ht) (.int .i64 (-1)) rfl rfl (fun U hU => (d2 ▸ count_any ht (-1) U).mono fun _ _ hh => ⟨hh.1, hU.trans (hh.2.mono hU.size)⟩)) ?_
  simp only [List.setIfInBounds_toArray, List.set_cons_zero, List.set_cons_succ]
  refine calm_to (i := 15) (t := 18) (v := .bool true) rfl rfl (by kernel_rfl) (by kernel_rfl) (by kernel_rfl) (fun _ _ _ h => h) (calm_pick rfl (.tmp 14) (.tmp 17) (.const (.bool false)) rfl true rfl rfl) ?_
  simp only [List.setIfInBounds_toArray, List.set_cons_zero, List.set_cons_succ]
  refine calm_to (i := 16) (t := 19) (v := .bool true) rfl rfl (by kernel_rfl) (by kernel_rfl) (by kernel_rfl) (fun _ _ _ h => h) (calm_move rfl (.tmp 18) (.inl rfl) rfl) ?_
  simp only [List.setIfInBounds_toArray, List.set_cons_zero, List.set_cons_succ]
  refine calm_to (i := 17) (t := 20) (v := .pointer (some ⟨w.heap.size, 4, none⟩)) rfl rfl (by kernel_rfl) (by kernel_rfl) (by kernel_rfl) (fun _ _ _ h => h) (calm_of rfl (fun U _ => by go_simp)) ?_
  simp only [List.setIfInBounds_toArray, List.set_cons_zero, List.set_cons_succ]
  refine calm_to (i := 18) (t := 21) (v := .int .i64 hb) rfl rfl (by kernel_rfl) (by kernel_rfl) (by kernel_rfl) (fun _ _ _ h => h) (calm_of rfl (fun U hU => by have h7 : _ = some (Value.int .i64 hb) := (k0.out.below hU k0.out.lt).cell 4; go_simp)) ?_
  simp only [List.setIfInBounds_toArray, List.set_cons_zero, List.set_cons_succ]
  refine calm_to (i := 19) (t := 22) (v := .bool true) rfl rfl (by kernel_rfl) (by kernel_rfl) (by kernel_rfl) (fun _ _ _ h => h) (calm_call2 rfl 31 (.tmp 21) (.const (.int .i64 (-1))) #[2, 2] rfl (enters_of Try.func31 (by kernel_rfl) rfl) (.int .i64 hb) (.int .i64 (-1)) rfl rfl (fun U hU => (d3 ▸ count_any hb (-1) U).mono fun _ _ hh => ⟨hh.1, hU.trans (hh.2.mono hU.size)⟩)) ?_
  simp only [List.setIfInBounds_toArray, List.set_cons_zero, List.set_cons_succ]
  refine calm_to (i := 20) (t := 23) (v := .bool true) rfl rfl (by kernel_rfl) (by kernel_rfl) (by kernel_rfl) (fun _ _ _ h => h) (calm_pick rfl (.tmp 19) (.tmp 22) (.const (.bool false)) rfl true rfl rfl) ?_
  simp only [List.setIfInBounds_toArray, List.set_cons_zero, List.set_cons_succ]
  refine calm_to (i := 21) (t := 24) (v := .bool true) rfl rfl (by kernel_rfl) (by kernel_rfl) (by kernel_rfl) (fun _ _ _ h => h) (calm_move rfl (.tmp 23) (.inl rfl) rfl) ?_
  simp only [List.setIfInBounds_toArray, List.set_cons_zero, List.set_cons_succ]
  refine calm_to (i := 22) (t := 25) (v := .pointer (some ⟨w.heap.size, 6, none⟩)) rfl rfl (by kernel_rfl) (by kernel_rfl) (by kernel_rfl) (fun _ _ _ h => h) (calm_of rfl (fun U _ => by go_simp)) ?_
  simp only [List.setIfInBounds_toArray, List.set_cons_zero, List.set_cons_succ]
  refine calm_to (i := 23) (t := 26) (v := .int .i64 hs) rfl rfl (by kernel_rfl) (by kernel_rfl) (by kernel_rfl) (fun _ _ _ h => h) (calm_of rfl (fun U hU => by have h7 : _ = some (Value.int .i64 hs) := (k0.out.below hU k0.out.lt).cell 6; go_simp)) ?_
  simp only [List.setIfInBounds_toArray, List.set_cons_zero, List.set_cons_succ]
  refine calm_to (i := 24) (t := 27) (v := .bool true) rfl rfl (by kernel_rfl) (by kernel_rfl) (by kernel_rfl) (fun _ _ _ h => h) (calm_of rfl (fun U _ => by go_simp)) ?_
  simp only [List.setIfInBounds_toArray, List.set_cons_zero, List.set_cons_succ]
  refine calm_to (i := 25) (t := 28) (v := .bool true) rfl rfl (by kernel_rfl) (by kernel_rfl) (by kernel_rfl) (fun _ _ _ h => h) (calm_pick rfl (.tmp 24) (.tmp 27) (.const (.bool false)) rfl true rfl rfl) ?_
  simp only [List.setIfInBounds_toArray, List.set_cons_zero, List.set_cons_succ]
  refine calm_to (i := 26) (t := 29) (v := .bool true) rfl rfl (by kernel_rfl) (by kernel_rfl) (by kernel_rfl) (fun _ _ _ h => h) (calm_move rfl (.tmp 28) (.inl rfl) rfl) ?_
  simp only [List.setIfInBounds_toArray, List.set_cons_zero, List.set_cons_succ]
  refine calm_to (i := 27) (t := 30) (v := .pointer (some ⟨w.heap.size, 6, none⟩)) rfl rfl (by kernel_rfl) (by kernel_rfl) (by kernel_rfl) (fun _ _ _ h => h) (calm_of rfl (fun U _ => by go_simp)) ?_
  simp only [List.setIfInBounds_toArray, List.set_cons_zero, List.set_cons_succ]
  refine calm_to (i := 28) (t := 31) (v := .int .i64 hs) rfl rfl (by kernel_rfl) (by kernel_rfl) (by kernel_rfl) (fun _ _ _ h => h) (calm_of rfl (fun U hU => by have h7 : _ = some (Value.int .i64 hs) := (k0.out.below hU k0.out.lt).cell 6; go_simp)) ?_
  simp only [List.setIfInBounds_toArray, List.set_cons_zero, List.set_cons_succ]
  refine calm_to (i := 29) (t := 32) (v := .bool false) rfl rfl (by kernel_rfl) (by kernel_rfl) (by kernel_rfl) (fun _ _ _ h => h) (calm_of rfl (fun U _ => by go_simp)) ?_
  simp only [List.setIfInBounds_toArray, List.set_cons_zero, List.set_cons_succ]
  refine calm_to (i := 30) (t := 33) (v := .bool false) rfl rfl (by kernel_rfl) (by kernel_rfl) (by kernel_rfl) (fun _ _ _ h => h) (calm_pick rfl (.tmp 29) (.tmp 32) (.const (.bool false)) rfl true rfl rfl) ?_
  simp only [List.setIfInBounds_toArray, List.set_cons_zero, List.set_cons_succ]
  refine calm_to (i := 31) (t := 2) (v := .bool false) rfl rfl (by kernel_rfl) (by kernel_rfl) (by kernel_rfl) (fun _ _ _ h => h) (calm_move rfl (.tmp 33) (.inr rfl) rfl) ?_
  simp only [List.setIfInBounds_toArray, List.set_cons_zero, List.set_cons_succ]
  refine calm_done (by kernel_rfl) ?_ _
  intro U hU
  have BU := Lib.hid (below3 B0.out hU)
  clear hU k0
  go_wp2
  go_ret
  exact ⟨rfl, BU.out⟩

theorem may_6 (hk hp hx ht hb : Int) (hw : Bool) (hs : Int) (w : World) (g0 : (0 ≤ hp)) (g1 : (hp < pcsF hk)) (g2 : (cntOk ht (-1))) (g3 : (cntOk hb (-1))) (g4 : (0 ≤ hs)) (g5 : (hs ≤ 4)) : Calls Try.prog 22 #[.agg #[.int .i64 hk, .int .i64 hp, .int .i64 hx, .int .i64 ht, .int .i64 hb, .bool hw, .int .i64 hs]] w (RetB (.bool true) w) := by
  have B0 := Lib.hid ((Below.refl w.heap.size w).alloc (Nat.le_refl _) (.cells #[.int .i64 hk, .int .i64 hp, .int .i64 hx, .int .i64 ht, .int .i64 hb, .bool hw, .int .i64 hs] 27))
  have k0 := Lib.hid (Bk.new w 27 #[.int .i64 hk, .int .i64 hp, .int .i64 hx, .int .i64 ht, .int .i64 hb, .bool hw, .int .i64 hs])
  have d2 : decide (cntOk ht (-1)) = true := decide_eq_true g2
  have d3 : decide (cntOk hb (-1)) = true := decide_eq_true g3
  go_enter Try.func22, Try.ntmps22
  go_wp2_with fail
  refine calm_region (S := fun U => Below (w.alloc (.cells #[.int .i64 hk, .int .i64 hp, .int .i64 hx, .int .i64 ht, .int .i64 hb, .bool hw, .int .i64 hs] 27)).heap.size (w.alloc (.cells #[.int .i64 hk, .int .i64 hp, .int .i64 hx, .int .i64 ht, .int .i64 hb, .bool hw, .int .i64 hs] 27)) U) (by kernel_rfl) (Below.refl _ _).drew ?_
  refine calm_to (i := 0) (t := 3) (v := .pointer (some ⟨w.heap.size, 1, none⟩)) rfl rfl (by kernel_rfl) (by kernel_rfl) (by kernel_rfl) (fun _ _ _ h => h) (calm_of rfl (fun U _ => by go_simp)) ?_
  simp only [List.setIfInBounds_toArray, List.set_cons_zero, List.set_cons_succ]
  refine calm_to (i := 1) (t := 4) (v := .int .i64 hp) rfl rfl (by kernel_rfl) (by kernel_rfl) (by kernel_rfl) (fun _ _ _ h => h) (calm_of rfl (fun U hU => by have h7 : _ = some (Value.int .i64 hp) := (k0.out.below hU k0.out.lt).cell 1; go_simp)) ?_
  simp only [List.setIfInBounds_toArray, List.set_cons_zero, List.set_cons_succ]
  refine calm_to (i := 2) (t := 5) (v := .bool true) rfl rfl (by kernel_rfl) (by kernel_rfl) (by kernel_rfl) (fun _ _ _ h => h) (calm_of rfl (fun U _ => by go_simp)) ?_
  simp only [List.setIfInBounds_toArray, List.set_cons_zero, List.set_cons_succ]
  refine calm_to (i := 3) (t := 6) (v := .bool true) rfl rfl (by kernel_rfl) (by kernel_rfl) (by kernel_rfl) (fun _ _ _ h => h) (calm_move rfl (.tmp 5) (.inl rfl) rfl) ?_
  simp only [List.setIfInBounds_toArray, List.set_cons_zero, List.set_cons_succ]
  refine calm_to (i := 4) (t := 7) (v := .pointer (some ⟨w.heap.size, 1, none⟩)) rfl rfl (by kernel_rfl) (by kernel_rfl) (by kernel_rfl) (fun _ _ _ h => h) (calm_of rfl (fun U _ => by go_simp)) ?_
  simp only [List.setIfInBounds_toArray, List.set_cons_zero, List.set_cons_succ]
  refine calm_to (i := 5) (t := 8) (v := .int .i64 hp) rfl rfl (by kernel_rfl) (by kernel_rfl) (by kernel_rfl) (fun _ _ _ h => h) (calm_of rfl (fun U hU => by have h7 : _ = some (Value.int .i64 hp) := (k0.out.below hU k0.out.lt).cell 1; go_simp)) ?_
  simp only [List.setIfInBounds_toArray, List.set_cons_zero, List.set_cons_succ]
  refine calm_to (i := 6) (t := 9) (v := .pointer (some ⟨w.heap.size, 0, none⟩)) rfl rfl (by kernel_rfl) (by kernel_rfl) (by kernel_rfl) (fun _ _ _ h => h) (calm_of rfl (fun U _ => by go_simp)) ?_
  simp only [List.setIfInBounds_toArray, List.set_cons_zero, List.set_cons_succ]
  refine calm_to (i := 7) (t := 10) (v := .int .i64 hk) rfl rfl (by kernel_rfl) (by kernel_rfl) (by kernel_rfl) (fun _ _ _ h => h) (calm_of rfl (fun U hU => by have h7 : _ = some (Value.int .i64 hk) := (k0.out.below hU k0.out.lt).cell 0; go_simp)) ?_
  simp only [List.setIfInBounds_toArray, List.set_cons_zero, List.set_cons_succ]
  refine calm_to (i := 8) (t := 11) (v := .int .i64 (pcsF hk)) rfl rfl (by kernel_rfl) (by kernel_rfl) (by kernel_rfl) (fun _ _ _ h => h) (calm_call1 rfl 28 (.tmp 10) #[3] rfl (enters_of Try.func28 (by kernel_rfl) rfl) (.int .i64 hk) rfl (fun U hU => (pcs_any hk U).mono fun _ _ hh => ⟨hh.1, hU.trans (hh.2.mono hU.size)⟩)) ?_
  simp only [List.setIfInBounds_toArray, List.set_cons_zero, List.set_cons_succ]
  refine calm_to (i := 9) (t := 12) (v := .bool true) rfl rfl (by kernel_rfl) (by kernel_rfl) (by kernel_rfl) (fun _ _ _ h => h) (calm_of rfl (fun U _ => by go_simp)) ?_
  simp only [List.setIfInBounds_toArray, List.set_cons_zero, List.set_cons_succ]
  refine calm_to (i := 10) (t := 13) (v := .bool true) rfl rfl (by kernel_rfl) (by kernel_rfl) (by kernel_rfl) (fun _ _ _ h => h) (calm_pick rfl (.tmp 6) (.tmp 12) (.const (.bool false)) rfl true rfl rfl) ?_
  simp only [List.setIfInBounds_toArray, List.set_cons_zero, List.set_cons_succ]
  refine calm_to (i := 11) (t := 14) (v := .bool true) rfl rfl (by kernel_rfl) (by kernel_rfl) (by kernel_rfl) (fun _ _ _ h => h) (calm_move rfl (.tmp 13) (.inl rfl) rfl) ?_
  simp only [List.setIfInBounds_toArray, List.set_cons_zero, List.set_cons_succ]
  refine calm_to (i := 12) (t := 15) (v := .pointer (some ⟨w.heap.size, 3, none⟩)) rfl rfl (by kernel_rfl) (by kernel_rfl) (by kernel_rfl) (fun _ _ _ h => h) (calm_of rfl (fun U _ => by go_simp)) ?_
  simp only [List.setIfInBounds_toArray, List.set_cons_zero, List.set_cons_succ]
  refine calm_to (i := 13) (t := 16) (v := .int .i64 ht) rfl rfl (by kernel_rfl) (by kernel_rfl) (by kernel_rfl) (fun _ _ _ h => h) (calm_of rfl (fun U hU => by have h7 : _ = some (Value.int .i64 ht) := (k0.out.below hU k0.out.lt).cell 3; go_simp)) ?_
  simp only [List.setIfInBounds_toArray, List.set_cons_zero, List.set_cons_succ]
  refine calm_to (i := 14) (t := 17) (v := .bool true) rfl rfl (by kernel_rfl) (by kernel_rfl) (by kernel_rfl) (fun _ _ _ h => h) (calm_call2 rfl 31 (.tmp 16) (.const (.int .i64 (-1))) #[2, 2] rfl (enters_of Try.func31 (by kernel_rfl) rfl) (.int .i64 ht) (.int .i64 (-1)) rfl rfl (fun U hU => (d2 ▸ count_any ht (-1) U).mono fun _ _ hh => ⟨hh.1, hU.trans (hh.2.mono hU.size)⟩)) ?_
  simp only [List.setIfInBounds_toArray, List.set_cons_zero, List.set_cons_succ]
  refine calm_to (i := 15) (t := 18) (v := .bool true) rfl rfl (by kernel_rfl) (by kernel_rfl) (by kernel_rfl) (fun _ _ _ h => h) (calm_pick rfl (.tmp 14) (.tmp 17) (.const (.bool false)) rfl true rfl rfl) ?_
  simp only [List.setIfInBounds_toArray, List.set_cons_zero, List.set_cons_succ]
  refine calm_to (i := 16) (t := 19) (v := .bool true) rfl rfl (by kernel_rfl) (by kernel_rfl) (by kernel_rfl) (fun _ _ _ h => h) (calm_move rfl (.tmp 18) (.inl rfl) rfl) ?_
  simp only [List.setIfInBounds_toArray, List.set_cons_zero, List.set_cons_succ]
  refine calm_to (i := 17) (t := 20) (v := .pointer (some ⟨w.heap.size, 4, none⟩)) rfl rfl (by kernel_rfl) (by kernel_rfl) (by kernel_rfl) (fun _ _ _ h => h) (calm_of rfl (fun U _ => by go_simp)) ?_
  simp only [List.setIfInBounds_toArray, List.set_cons_zero, List.set_cons_succ]
  refine calm_to (i := 18) (t := 21) (v := .int .i64 hb) rfl rfl (by kernel_rfl) (by kernel_rfl) (by kernel_rfl) (fun _ _ _ h => h) (calm_of rfl (fun U hU => by have h7 : _ = some (Value.int .i64 hb) := (k0.out.below hU k0.out.lt).cell 4; go_simp)) ?_
  simp only [List.setIfInBounds_toArray, List.set_cons_zero, List.set_cons_succ]
  refine calm_to (i := 19) (t := 22) (v := .bool true) rfl rfl (by kernel_rfl) (by kernel_rfl) (by kernel_rfl) (fun _ _ _ h => h) (calm_call2 rfl 31 (.tmp 21) (.const (.int .i64 (-1))) #[2, 2] rfl (enters_of Try.func31 (by kernel_rfl) rfl) (.int .i64 hb) (.int .i64 (-1)) rfl rfl (fun U hU => (d3 ▸ count_any hb (-1) U).mono fun _ _ hh => ⟨hh.1, hU.trans (hh.2.mono hU.size)⟩)) ?_
  simp only [List.setIfInBounds_toArray, List.set_cons_zero, List.set_cons_succ]
  refine calm_to (i := 20) (t := 23) (v := .bool true) rfl rfl (by kernel_rfl) (by kernel_rfl) (by kernel_rfl) (fun _ _ _ h => h) (calm_pick rfl (.tmp 19) (.tmp 22) (.const (.bool false)) rfl true rfl rfl) ?_
  simp only [List.setIfInBounds_toArray, List.set_cons_zero, List.set_cons_succ]
  refine calm_to (i := 21) (t := 24) (v := .bool true) rfl rfl (by kernel_rfl) (by kernel_rfl) (by kernel_rfl) (fun _ _ _ h => h) (calm_move rfl (.tmp 23) (.inl rfl) rfl) ?_
  simp only [List.setIfInBounds_toArray, List.set_cons_zero, List.set_cons_succ]
  refine calm_to (i := 22) (t := 25) (v := .pointer (some ⟨w.heap.size, 6, none⟩)) rfl rfl (by kernel_rfl) (by kernel_rfl) (by kernel_rfl) (fun _ _ _ h => h) (calm_of rfl (fun U _ => by go_simp)) ?_
  simp only [List.setIfInBounds_toArray, List.set_cons_zero, List.set_cons_succ]
  refine calm_to (i := 23) (t := 26) (v := .int .i64 hs) rfl rfl (by kernel_rfl) (by kernel_rfl) (by kernel_rfl) (fun _ _ _ h => h) (calm_of rfl (fun U hU => by have h7 : _ = some (Value.int .i64 hs) := (k0.out.below hU k0.out.lt).cell 6; go_simp)) ?_
  simp only [List.setIfInBounds_toArray, List.set_cons_zero, List.set_cons_succ]
  refine calm_to (i := 24) (t := 27) (v := .bool true) rfl rfl (by kernel_rfl) (by kernel_rfl) (by kernel_rfl) (fun _ _ _ h => h) (calm_of rfl (fun U _ => by go_simp)) ?_
  simp only [List.setIfInBounds_toArray, List.set_cons_zero, List.set_cons_succ]
  refine calm_to (i := 25) (t := 28) (v := .bool true) rfl rfl (by kernel_rfl) (by kernel_rfl) (by kernel_rfl) (fun _ _ _ h => h) (calm_pick rfl (.tmp 24) (.tmp 27) (.const (.bool false)) rfl true rfl rfl) ?_
  simp only [List.setIfInBounds_toArray, List.set_cons_zero, List.set_cons_succ]
  refine calm_to (i := 26) (t := 29) (v := .bool true) rfl rfl (by kernel_rfl) (by kernel_rfl) (by kernel_rfl) (fun _ _ _ h => h) (calm_move rfl (.tmp 28) (.inl rfl) rfl) ?_
  simp only [List.setIfInBounds_toArray, List.set_cons_zero, List.set_cons_succ]
  refine calm_to (i := 27) (t := 30) (v := .pointer (some ⟨w.heap.size, 6, none⟩)) rfl rfl (by kernel_rfl) (by kernel_rfl) (by kernel_rfl) (fun _ _ _ h => h) (calm_of rfl (fun U _ => by go_simp)) ?_
  simp only [List.setIfInBounds_toArray, List.set_cons_zero, List.set_cons_succ]
  refine calm_to (i := 28) (t := 31) (v := .int .i64 hs) rfl rfl (by kernel_rfl) (by kernel_rfl) (by kernel_rfl) (fun _ _ _ h => h) (calm_of rfl (fun U hU => by have h7 : _ = some (Value.int .i64 hs) := (k0.out.below hU k0.out.lt).cell 6; go_simp)) ?_
  simp only [List.setIfInBounds_toArray, List.set_cons_zero, List.set_cons_succ]
  refine calm_to (i := 29) (t := 32) (v := .bool true) rfl rfl (by kernel_rfl) (by kernel_rfl) (by kernel_rfl) (fun _ _ _ h => h) (calm_of rfl (fun U _ => by go_simp)) ?_
  simp only [List.setIfInBounds_toArray, List.set_cons_zero, List.set_cons_succ]
  refine calm_to (i := 30) (t := 33) (v := .bool true) rfl rfl (by kernel_rfl) (by kernel_rfl) (by kernel_rfl) (fun _ _ _ h => h) (calm_pick rfl (.tmp 29) (.tmp 32) (.const (.bool false)) rfl true rfl rfl) ?_
  simp only [List.setIfInBounds_toArray, List.set_cons_zero, List.set_cons_succ]
  refine calm_to (i := 31) (t := 2) (v := .bool true) rfl rfl (by kernel_rfl) (by kernel_rfl) (by kernel_rfl) (fun _ _ _ h => h) (calm_move rfl (.tmp 33) (.inr rfl) rfl) ?_
  simp only [List.setIfInBounds_toArray, List.set_cons_zero, List.set_cons_succ]
  refine calm_done (by kernel_rfl) ?_ _
  intro U hU
  have BU := Lib.hid (below3 B0.out hU)
  clear hU k0
  go_wp2
  go_ret
  exact ⟨rfl, BU.out⟩

theorem may_any (h : Hd) (w : World) : Calls Try.prog 22 #[hv h] w (RetB (.bool (decide (MayH h))) w) := by
  obtain ⟨hk, hp, hx, ht, hb, hw, hs⟩ := h
  by_cases g0 : 0 ≤ hp
  · by_cases g1 : hp < pcsF hk
    · by_cases g2 : cntOk ht (-1)
      · by_cases g3 : cntOk hb (-1)
        · by_cases g4 : 0 ≤ hs
          · by_cases g5 : hs ≤ 4
            · rw [show decide (MayH ⟨hk, hp, hx, ht, hb, hw, hs⟩) = true from decide_eq_true ⟨g0, g1, g2, g3, g4, g5⟩]
              exact may_6 hk hp hx ht hb hw hs w g0 g1 g2 g3 g4 g5
            · rw [show decide (MayH ⟨hk, hp, hx, ht, hb, hw, hs⟩) = false from decide_eq_false fun q => g5 q.2.2.2.2.2]
              exact may_5 hk hp hx ht hb hw hs w g0 g1 g2 g3 g4 g5
          · rw [show decide (MayH ⟨hk, hp, hx, ht, hb, hw, hs⟩) = false from decide_eq_false fun q => g4 q.2.2.2.2.1]
            exact may_4 hk hp hx ht hb hw hs w g0 g1 g2 g3 g4
        · rw [show decide (MayH ⟨hk, hp, hx, ht, hb, hw, hs⟩) = false from decide_eq_false fun q => g3 q.2.2.2.1]
          exact may_3 hk hp hx ht hb hw hs w g0 g1 g2 g3
      · rw [show decide (MayH ⟨hk, hp, hx, ht, hb, hw, hs⟩) = false from decide_eq_false fun q => g2 q.2.2.1]
        exact may_2 hk hp hx ht hb hw hs w g0 g1 g2
    · rw [show decide (MayH ⟨hk, hp, hx, ht, hb, hw, hs⟩) = false from decide_eq_false fun q => g1 q.2.1]
      exact may_1 hk hp hx ht hb hw hs w g0 g1
  · rw [show decide (MayH ⟨hk, hp, hx, ht, hb, hw, hs⟩) = false from decide_eq_false fun q => g0 q.1]
    exact may_0 hk hp hx ht hb hw hs w g0

end Go.Proofs.Ytfmiamjbhlglbaa

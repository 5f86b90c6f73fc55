/-
  The law RingLists of layer 7, walked: whether any deque may be, and its numbers.
-/
import Derived.Test.YtfmiamjbhlglbaaSe
import Derived.Test.YtfmiamjbhlglbaaSf
namespace Go.Proofs.Ytfmiamjbhlglbaa
open Go.RowKit

theorem rlists_big (A : Option Addr) (n c : Nat) (base cap : Int) (w : World) (hn : n ≤ 9223372036854775807) (h : 1100 < n) :
    Calls Try.prog 4 #[.slice A n c, .agg #[.int .i64 base, .int .i64 cap]] w (TrueAns w) := by
  have B0 := Lib.hid ((Below.refl w.heap.size w).alloc (Nat.le_refl _) (.cells #[.int .i64 base, .int .i64 cap] 25))
  go_enter Try.func4, Try.ntmps4
  go_wp2_with fail
  refine (live_any _).mono ?_
  rintro e w1 ⟨rfl, b1⟩
  have B1 := Lib.hid (below3 B0.out b1)
  clear b1
  go_wp2
  go_ret
  exact ⟨rfl, B1.out⟩

set_option maxHeartbeats 1000000 in
theorem rlists_any (A : Option Addr) (n c : Nat) (base cap : Int) (ms : List Int) (w : World) (hx : Ints w A n ms) (fb : Fit base) (fc : Fit cap) :
    Calls Try.prog 4 #[.slice A n c, .agg #[.int .i64 base, .int .i64 cap]] w (TrueAns w) := by
  have hm := hx.2.1
  by_cases h : 1100 < n
  · exact rlists_big A n c base cap w (by omega) h
  have HX := Lib.hid hx
  have FB := Lib.hid fb
  have FC := Lib.hid fc
  have HN : Hid (n ≤ 9223372036854775807) := Lib.hid (by omega)
  have k0 := Bk.new w 25 #[.int .i64 base, .int .i64 cap]
  have B0 := Lib.hid ((Below.refl w.heap.size w).alloc (Nat.le_refl _) (.cells #[.int .i64 base, .int .i64 cap] 25))
  have K0 := Lib.hid k0
  clear hx fb fc hm k0
  obtain ⟨⟨y, l⟩, hr⟩ : ∃ r, listF ms base cap = r := ⟨_, rfl⟩
  have HR := Lib.hid hr
  obtain ⟨z, hz⟩ : ∃ z : Int, (if MayQ n base cap then 0 else 1) = z := ⟨_, rfl⟩
  have HZ := Lib.hid hz
  clear hr hz
  go_enter Try.func4, Try.ntmps4
  go_wp2_with fail
  refine (live_any _).mono ?_
  rintro e w1 ⟨rfl, b1⟩
  have B1 := Lib.hid (below3 B0.out b1)
  have k1 := K0.out.below b1 K0.out.lt
  have c0 : _ = some (Value.int .i64 base) := k1.cell 0
  have c1 : _ = some (Value.int .i64 cap) := k1.cell 1
  have l0 := k1.lt
  have K1 := Lib.hid k1
  clear b1 k1
  go_wp2_with fail
  refine (list_any A n c base cap ms _ (HX.out.below B1.out) FB.out FC.out).mono ?_
  rw [HR.out]
  rintro e w2 ⟨A2, c2, rfl, o2, b2⟩
  have O2 := Lib.hid o2.ints
  have B2 := Lib.hid (below3 B1.out b2)
  have k2 := K1.out.below b2 K1.out.lt
  clear c0 c1 l0 o2 b2
  have c0 : _ = some (Value.int .i64 base) := k2.cell 0
  have c1 : _ = some (Value.int .i64 cap) := k2.cell 1
  have l0 := k2.lt
  have K2 := Lib.hid k2
  clear k2
  simp only []
  go_wp2_with fail
  refine (rlist_any A n c base cap ms _ (HX.out.below B2.out) FB.out FC.out).mono ?_
  rw [HR.out]
  rintro e w3 ⟨A3, c3, rfl, o3, b3⟩
  have O3 := Lib.hid o3.ints
  have O2 := Lib.hid (O2.out.below b3)
  have B3 := Lib.hid (below3 B2.out b3)
  have k3 := K2.out.below b3 K2.out.lt
  clear c0 c1 l0 o3 b3
  have K3 := Lib.hid k3
  have l0 := k3.lt
  clear k3
  simp only []
  go_wp2
  have hsame : sameB l l = true := sameB_all rfl rfl (fun _ _ => rfl)
  have HSM := Lib.hid hsame
  clear hsame
  refine calm_region (S := fun U => Below w3.heap.size w3 U) (by kernel_rfl) (Below.refl _ _).drew ?_
  refine calm_to (i := 0) (t := 29) (v := .bool true) rfl rfl (by kernel_rfl) (by kernel_rfl) (by kernel_rfl) (fun _ _ _ h => h) (calm_move rfl (.tmp 5) (.inl rfl) rfl) ?_
  simp only [List.setIfInBounds_toArray, List.set_cons_zero, List.set_cons_succ]
  refine calm_to (i := 1) (t := 30) (v := .bool true) rfl rfl (by kernel_rfl) (by kernel_rfl) (by kernel_rfl) (fun _ _ _ h => h) (calm_move rfl (.tmp 29) (.inl rfl) rfl) ?_
  simp only [List.setIfInBounds_toArray, List.set_cons_zero, List.set_cons_succ]
  refine calm_to (i := 2) (t := 31) (v := .slice A2 l.length c2) rfl rfl (by kernel_rfl) (by kernel_rfl) (by kernel_rfl) (fun _ _ _ h => h) (calm_move rfl (.tmp 6) (.inl rfl) rfl) ?_
  simp only [List.setIfInBounds_toArray, List.set_cons_zero, List.set_cons_succ]
  refine calm_to (i := 3) (t := 32) (v := .slice A3 l.length c3) rfl rfl (by kernel_rfl) (by kernel_rfl) (by kernel_rfl) (fun _ _ _ h => h) (calm_move rfl (.tmp 8) (.inl rfl) rfl) ?_
  simp only [List.setIfInBounds_toArray, List.set_cons_zero, List.set_cons_succ]
  refine calm_to (i := 4) (t := 33) (v := .bool true) rfl rfl (by kernel_rfl) (by kernel_rfl) (by kernel_rfl) (fun _ _ _ h => h) (calm_call2 rfl 14 (.tmp 31) (.tmp 32) #[22, 22] rfl (enters_of Try.func14 (by kernel_rfl) rfl) (.slice A2 l.length c2) (.slice A3 l.length c3) rfl rfl (fun U hU => (rsame_any A2 A3 _ c2 _ c3 l l U (O2.out.below hU) (O3.out.below hU)).mono fun _ _ q => ⟨by rw [q.1, HSM.out], by obtain ⟨kk, e⟩ := q.2; rw [e]; exact below_drewN hU kk⟩)) ?_
  simp only [List.setIfInBounds_toArray, List.set_cons_zero, List.set_cons_succ]
  refine calm_to (i := 5) (t := 34) (v := .bool true) rfl rfl (by kernel_rfl) (by kernel_rfl) (by kernel_rfl) (fun _ _ _ h => h) (calm_pick rfl (.tmp 30) (.tmp 33) (.const (.bool false)) rfl true rfl rfl) ?_
  simp only [List.setIfInBounds_toArray, List.set_cons_zero, List.set_cons_succ]
  refine calm_to (i := 6) (t := 35) (v := .bool true) rfl rfl (by kernel_rfl) (by kernel_rfl) (by kernel_rfl) (fun _ _ _ h => h) (calm_move rfl (.tmp 34) (.inl rfl) rfl) ?_
  simp only [List.setIfInBounds_toArray, List.set_cons_zero, List.set_cons_succ]
  refine calm_to (i := 7) (t := 36) (v := .int .i64 y) rfl rfl (by kernel_rfl) (by kernel_rfl) (by kernel_rfl) (fun _ _ _ h => h) (calm_move rfl (.tmp 7) (.inl rfl) rfl) ?_
  simp only [List.setIfInBounds_toArray, List.set_cons_zero, List.set_cons_succ]
  refine calm_to (i := 8) (t := 37) (v := .int .i64 y) rfl rfl (by kernel_rfl) (by kernel_rfl) (by kernel_rfl) (fun _ _ _ h => h) (calm_move rfl (.tmp 9) (.inl rfl) rfl) ?_
  simp only [List.setIfInBounds_toArray, List.set_cons_zero, List.set_cons_succ]
  refine calm_to (i := 9) (t := 38) (v := .bool true) rfl rfl (by kernel_rfl) (by kernel_rfl) (by kernel_rfl) (fun _ _ _ h => h) (calm_of rfl (fun U hU => by go_simp)) ?_
  simp only [List.setIfInBounds_toArray, List.set_cons_zero, List.set_cons_succ]
  refine calm_to (i := 10) (t := 39) (v := .bool true) rfl rfl (by kernel_rfl) (by kernel_rfl) (by kernel_rfl) (fun _ _ _ h => h) (calm_pick rfl (.tmp 35) (.tmp 38) (.const (.bool false)) rfl true rfl rfl) ?_
  simp only [List.setIfInBounds_toArray, List.set_cons_zero, List.set_cons_succ]
  refine calm_to (i := 11) (t := 40) (v := .bool true) rfl rfl (by kernel_rfl) (by kernel_rfl) (by kernel_rfl) (fun _ _ _ h => h) (calm_move rfl (.tmp 39) (.inl rfl) rfl) ?_
  simp only [List.setIfInBounds_toArray, List.set_cons_zero, List.set_cons_succ]
  refine calm_to (i := 12) (t := 41) (v := .slice A n c) rfl rfl (by kernel_rfl) (by kernel_rfl) (by kernel_rfl) (fun _ _ _ h => h) (calm_move rfl (.tmp 0) (.inl rfl) rfl) ?_
  simp only [List.setIfInBounds_toArray, List.set_cons_zero, List.set_cons_succ]
  refine calm_to (i := 13) (t := 42) (v := .agg #[.int .i64 base, .int .i64 cap]) rfl rfl (by kernel_rfl) (by kernel_rfl) (by kernel_rfl) (fun _ _ _ h => h) (calm_of rfl (fun U hU => by have q0 : _ = some (Value.int .i64 base) := (K3.out.below hU K3.out.lt).cell 0; have q1 : _ = some (Value.int .i64 cap) := (K3.out.below hU K3.out.lt).cell 1; go_simp)) ?_
  simp only [List.setIfInBounds_toArray, List.set_cons_zero, List.set_cons_succ]
  refine calm_to (i := 14) (t := 43) (v := .int .i64 z) rfl rfl (by kernel_rfl) (by kernel_rfl) (by kernel_rfl) (fun _ _ _ h => h) (calm_call2 rfl 17 (.tmp 41) (.tmp 42) #[23, 25] rfl (enters_of Try.func17 (by kernel_rfl) rfl) (.slice A n c) (.agg #[.int .i64 base, .int .i64 cap]) rfl rfl (fun U hU => (checkq_any A n c base cap U HN.out FB.out FC.out).mono fun _ _ q => ⟨by rw [q.1, HZ.out], hU.trans (q.2.mono hU.size)⟩)) ?_
  simp only [List.setIfInBounds_toArray, List.set_cons_zero, List.set_cons_succ]
  refine calm_to (i := 15) (t := 44) (v := .slice A n c) rfl rfl (by kernel_rfl) (by kernel_rfl) (by kernel_rfl) (fun _ _ _ h => h) (calm_move rfl (.tmp 0) (.inl rfl) rfl) ?_
  simp only [List.setIfInBounds_toArray, List.set_cons_zero, List.set_cons_succ]
  refine calm_to (i := 16) (t := 45) (v := .agg #[.int .i64 base, .int .i64 cap]) rfl rfl (by kernel_rfl) (by kernel_rfl) (by kernel_rfl) (fun _ _ _ h => h) (calm_of rfl (fun U hU => by have q0 : _ = some (Value.int .i64 base) := (K3.out.below hU K3.out.lt).cell 0; have q1 : _ = some (Value.int .i64 cap) := (K3.out.below hU K3.out.lt).cell 1; go_simp)) ?_
  simp only [List.setIfInBounds_toArray, List.set_cons_zero, List.set_cons_succ]
  refine calm_to (i := 17) (t := 46) (v := .int .i64 z) rfl rfl (by kernel_rfl) (by kernel_rfl) (by kernel_rfl) (fun _ _ _ h => h) (calm_call2 rfl 18 (.tmp 44) (.tmp 45) #[23, 25] rfl (enters_of Try.func18 (by kernel_rfl) rfl) (.slice A n c) (.agg #[.int .i64 base, .int .i64 cap]) rfl rfl (fun U hU => (rcheckq_any A n c base cap U HN.out).mono fun _ _ q => ⟨by rw [q.1, HZ.out], hU.trans (q.2.mono hU.size)⟩)) ?_
  simp only [List.setIfInBounds_toArray, List.set_cons_zero, List.set_cons_succ]
  refine calm_to (i := 18) (t := 47) (v := .bool true) rfl rfl (by kernel_rfl) (by kernel_rfl) (by kernel_rfl) (fun _ _ _ h => h) (calm_of rfl (fun U hU => by go_simp)) ?_
  simp only [List.setIfInBounds_toArray, List.set_cons_zero, List.set_cons_succ]
  refine calm_to (i := 19) (t := 48) (v := .bool true) rfl rfl (by kernel_rfl) (by kernel_rfl) (by kernel_rfl) (fun _ _ _ h => h) (calm_pick rfl (.tmp 40) (.tmp 47) (.const (.bool false)) rfl true rfl rfl) ?_
  simp only [List.setIfInBounds_toArray, List.set_cons_zero, List.set_cons_succ]
  refine calm_to (i := 20) (t := 4) (v := .bool true) rfl rfl (by kernel_rfl) (by kernel_rfl) (by kernel_rfl) (fun _ _ _ h => h) (calm_move rfl (.tmp 48) (.inr rfl) rfl) ?_
  simp only [List.setIfInBounds_toArray, List.set_cons_zero, List.set_cons_succ]
  refine calm_done (by kernel_rfl) ?_ _
  intro U hU
  have BU := Lib.hid (below3 B3.out hU)
  clear hU
  go_wp2
  go_ret
  exact ⟨rfl, BU.out⟩

end Go.Proofs.Ytfmiamjbhlglbaa

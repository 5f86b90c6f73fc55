/-
  Contracts of Same of layer 4 on programs: the program's and the document's.
-/
import Derived.Test.YtpfnoohcilefhaaSame
namespace Go.Proofs.Ytpfnoohcilefhaa
open Go.RowKit

set_option maxHeartbeats 1000000 in
theorem equalFunc_any (A B : Option Addr) (n c m d : Nat) (l r : List (List I3)) (w : World) (hp : Prgs w A n l) (hq : Prgs w B m r) :
    Calls Try.prog 55 #[.slice A n c, .slice B m d, .func (.func 56) #[] #[]] w (RetB (.bool (sameL l r)) w) := by
  have HP := Lib.hid hp
  have HQ := Lib.hid hq
  have HN := Lib.hid hp.1
  have HM := Lib.hid hq.1
  have hn := hp.2.1
  have hm := hq.2.1
  clear hp hq
  by_cases hnm : n = m
  · obtain rfl : n = m := hnm
    go_enter Try.func55, Try.ntmps55
    go_wp2
    go_loopw [17] (fun t wr => EqRel (fun j => sameP (pth l j) (pth r j)) n w t wr) (fun t _ => n - (intOf t).toNat)
    case atStart => exact ⟨0, Nat.zero_le _, rfl, fun j hj => absurd hj (by omega), Below.refl _ _⟩
    case round =>
      obtain ⟨k, hk, rfl, heq, hb⟩ := hrel
      have HEQ := Lib.hid heq
      have HB := Lib.hid hb
      clear heq hb
      by_cases hlt : k < n
      · obtain ⟨b, o, D, u, x, rfl, hbl, g0, hr⟩ := (HP.out.below HB.out).at_ hlt
        obtain ⟨b', o', D', u', x', rfl, hbl', g0', hr'⟩ := (HQ.out.below HB.out).at_ hlt
        have HR := Lib.hid hr
        have HR' := Lib.hid hr'
        clear hr hr'
        go_wp2_with fail
        refine (equalP_any D D' u x u' x' _ _ _ HR.out HR'.out).mono ?_
        rintro e w2 ⟨rfl, hU⟩
        have HB2 := Lib.hid (below3 HB.out hU)
        clear hU
        by_cases hx : sameP (pth l k) (pth r k) = true
        · rw [hx]
          have HX := Lib.hid (all_next (q := fun j => sameP (pth l j) (pth r j)) HEQ.out hx)
          clear hx
          go_wp2
          go_roundw
          case rel => exact ⟨k + 1, by omega, by go_num, HX.out, HB2.out⟩
          case measure => simp [intOf]; omega
        · have hx := bool_no hx
          rw [hx]
          have HX := Lib.hid (sameL_at (p := l) (q := r) (k := k) hx)
          clear hx
          go_wp2
          go_ret
          rw [HX.out]
          exact RetB.of rfl HB2.out
      · have HX := Lib.hid (sameL_all HN.out HM.out (fun j hj => HEQ.out j (by omega)))
        go_wp2
        go_ret
        rw [HX.out]
        exact RetB.of rfl HB.out
  · have HX := Lib.hid (sameL_len (p := l) (q := r) (by rw [HN.out, HM.out]; exact hnm))
    have h1 : ((n : Int) != (m : Int)) = true := by simp; omega
    go_enter Try.func55, Try.ntmps55
    go_wp2
    go_ret
    rw [HX.out]
    exact RetB.of rfl (Below.refl _ _)

theorem same_any (A B : Option Addr) (n c m d : Nat) (l r : List (List I3)) (w : World) (hp : Prgs w A n l) (hq : Prgs w B m r) :
    Calls Try.prog 34 #[.slice A n c, .slice B m d] w (RetB (.bool (sameL l r)) w) := by
  go_enter Try.func34, Try.ntmps34
  go_wp2_with fail
  refine (equalFunc_any A B n c m d l r w hp hq).mono ?_
  rintro e w1 ⟨rfl, hb⟩
  have HB := Lib.hid hb
  clear hb
  go_wp2
  go_ret
  exact RetB.of rfl HB.out

set_option maxHeartbeats 1000000 in
theorem rsame_any (A B : Option Addr) (n c m d : Nat) (l r : List (List I3)) (w : World) (hp : Prgs w A n l) (hq : Prgs w B m r) :
    Calls Try.prog 36 #[.slice A n c, .slice B m d] w (RetB (.bool (sameL l r)) w) := by
  have HP := Lib.hid hp
  have HQ := Lib.hid hq
  have HN := Lib.hid hp.1
  have HM := Lib.hid hq.1
  have hn := hp.2.1
  have hm := hq.2.1
  clear hp hq
  by_cases hnm : n = m
  · obtain rfl : n = m := hnm
    go_enter Try.func36, Try.ntmps36
    go_wp2
    go_loopw [13] (fun t wr => EqRel (fun j => sameP (pth l j) (pth r j)) n w t wr) (fun t _ => n - (intOf t).toNat)
    case atStart => exact ⟨0, Nat.zero_le _, rfl, fun j hj => absurd hj (by omega), Below.refl _ _⟩
    case round =>
      obtain ⟨k, hk, rfl, heq, hb⟩ := hrel
      have HEQ := Lib.hid heq
      have HB := Lib.hid hb
      clear heq hb
      by_cases hlt : k < n
      · obtain ⟨b, o, D, u, x, rfl, hbl, g0, hr⟩ := (HP.out.below HB.out).at_ hlt
        obtain ⟨b', o', D', u', x', rfl, hbl', g0', hr'⟩ := (HQ.out.below HB.out).at_ hlt
        have HR := Lib.hid hr
        have HR' := Lib.hid hr'
        clear hr hr'
        have HG : Hid (∀ U, Below wr.heap.size wr U → U.cell? ⟨b, o + k, none⟩ = some (.slice D u x)) := Lib.hid (fun U hU => (hU.cell (p := ⟨b, _, none⟩) hbl).trans g0)
        have HG' : Hid (∀ U, Below wr.heap.size wr U → U.cell? ⟨b', o' + k, none⟩ = some (.slice D' u' x')) := Lib.hid (fun U hU => (hU.cell (p := ⟨b', _, none⟩) hbl').trans g0')
        clear g0 g0'
        go_wp2
        refine calm_region (S := fun U => Below wr.heap.size wr U) (by kernel_rfl) (Below.refl _ _).drew ?_
        refine calm_to (i := 0) (t := 16) (v := .slice (some ⟨b, o, none⟩) n c) rfl rfl (by kernel_rfl) (by kernel_rfl) (by kernel_rfl) (fun _ _ _ h => h) (calm_move rfl (.tmp 0) (.inl rfl) rfl) ?_
        simp only [List.setIfInBounds_toArray, List.set_cons_zero, List.set_cons_succ]
        refine calm_to (i := 1) (t := 17) (v := .int .i64 (k : Int)) rfl rfl (by kernel_rfl) (by kernel_rfl) (by kernel_rfl) (fun _ _ _ h => h) (calm_move rfl (.tmp 5) (.inl rfl) rfl) ?_
        simp only [List.setIfInBounds_toArray, List.set_cons_zero, List.set_cons_succ]
        refine calm_to (i := 2) (t := 18) (v := .pointer (some ⟨b, o + k, none⟩)) rfl rfl (by kernel_rfl) (by kernel_rfl) (by kernel_rfl) (fun _ _ _ h => h) (calm_of rfl (fun U hU => by go_simp)) ?_
        simp only [List.setIfInBounds_toArray, List.set_cons_zero, List.set_cons_succ]
        refine calm_to (i := 3) (t := 19) (v := .slice D u x) rfl rfl (by kernel_rfl) (by kernel_rfl) (by kernel_rfl) (fun _ _ _ h => h) (calm_cell rfl (.tmp 18) rfl b _ rfl HG.out) ?_
        simp only [List.setIfInBounds_toArray, List.set_cons_zero, List.set_cons_succ]
        refine calm_to (i := 4) (t := 20) (v := .slice (some ⟨b', o', none⟩) n d) rfl rfl (by kernel_rfl) (by kernel_rfl) (by kernel_rfl) (fun _ _ _ h => h) (calm_move rfl (.tmp 1) (.inl rfl) rfl) ?_
        simp only [List.setIfInBounds_toArray, List.set_cons_zero, List.set_cons_succ]
        refine calm_to (i := 5) (t := 21) (v := .int .i64 (k : Int)) rfl rfl (by kernel_rfl) (by kernel_rfl) (by kernel_rfl) (fun _ _ _ h => h) (calm_move rfl (.tmp 5) (.inl rfl) rfl) ?_
        simp only [List.setIfInBounds_toArray, List.set_cons_zero, List.set_cons_succ]
        refine calm_to (i := 6) (t := 22) (v := .pointer (some ⟨b', o' + k, none⟩)) rfl rfl (by kernel_rfl) (by kernel_rfl) (by kernel_rfl) (fun _ _ _ h => h) (calm_of rfl (fun U hU => by go_simp)) ?_
        simp only [List.setIfInBounds_toArray, List.set_cons_zero, List.set_cons_succ]
        refine calm_to (i := 7) (t := 23) (v := .slice D' u' x') rfl rfl (by kernel_rfl) (by kernel_rfl) (by kernel_rfl) (fun _ _ _ h => h) (calm_cell rfl (.tmp 22) rfl b' _ rfl HG'.out) ?_
        simp only [List.setIfInBounds_toArray, List.set_cons_zero, List.set_cons_succ]
        refine calm_to (i := 8) (t := 24) (v := .bool (sameP (pth l k) (pth r k))) rfl rfl (by kernel_rfl) (by kernel_rfl) (by kernel_rfl) (fun _ _ _ h => h) (calm_call2 rfl 57 (.tmp 19) (.tmp 23) #[59, 59] rfl (enters_of Try.func57 (by kernel_rfl) rfl) (.slice D u x) (.slice D' u' x') rfl rfl (fun U hU => (rsameOne_any D D' u x u' x' _ _ U (HR.out.below hU) (HR'.out.below hU)).mono fun _ _ h => ⟨h.1, below3 hU h.2⟩)) ?_
        simp only [List.setIfInBounds_toArray, List.set_cons_zero, List.set_cons_succ]
        refine calm_to (i := 9) (t := 25) (v := .bool (!sameP (pth l k) (pth r k))) rfl rfl (by kernel_rfl) (by kernel_rfl) (by kernel_rfl) (fun _ _ _ h => h) (calm_of rfl (fun U hU => by go_simp)) ?_
        simp only [List.setIfInBounds_toArray, List.set_cons_zero, List.set_cons_succ]
        refine calm_done (by kernel_rfl) (fun U hU => ?_) _
        have HB2 := Lib.hid (below3 HB.out hU)
        clear hU
        by_cases hx : sameP (pth l k) (pth r k) = true
        · rw [hx]
          have HX := Lib.hid (all_next (q := fun j => sameP (pth l j) (pth r j)) HEQ.out hx)
          clear hx
          go_wp2
          go_roundw
          case rel => exact ⟨k + 1, by omega, by go_num, HX.out, HB2.out⟩
          case measure => simp [intOf]; omega
        · have hx := bool_no hx
          rw [hx]
          have HX := Lib.hid (sameL_at (p := l) (q := r) (k := k) hx)
          clear hx
          go_wp2
          go_ret
          rw [HX.out]
          exact RetB.of rfl HB2.out
      · have HX := Lib.hid (sameL_all HN.out HM.out (fun j hj => HEQ.out j (by omega)))
        go_wp2
        go_ret
        rw [HX.out]
        exact RetB.of rfl HB.out
  · have HX := Lib.hid (sameL_len (p := l) (q := r) (by rw [HN.out, HM.out]; exact hnm))
    have h1 : ((n : Int) != (m : Int)) = true := by simp; omega
    go_enter Try.func36, Try.ntmps36
    go_wp2
    go_ret
    rw [HX.out]
    exact RetB.of rfl (Below.refl _ _)

end Go.Proofs.Ytpfnoohcilefhaa

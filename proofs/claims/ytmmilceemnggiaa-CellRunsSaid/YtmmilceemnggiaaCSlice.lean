/-
  Contracts of the functions of layer 1 that read, compare or copy cells: Clone, Equal, Same, place, With.
-/
import Derived.Test.YtmmilceemnggiaaCSmall
import Derived.Deep.QuietTactic
import Derived.BigQuiet
namespace Go.Proofs.Ytmmilceemnggiaa
open Go.RowKit

theorem place_yes (A : Option Addr) (n c : Nat) (at_ : Int) (w : World) (h : n ≤ 65536) (h0 : 0 ≤ at_) (h1 : at_ < n) :
    Calls Try.prog 25 #[.slice A n c, .int .i64 at_] w fun e w' => e = .returned (.bool true) ∧ w = w' := by
  go_enter Try.func25, Try.ntmps25
  go_wp2_with (go_at_call 15; refine (rcheck_ok _ _ _ _ h).mono ?_; rintro e w' ⟨rfl, rfl⟩)
  go_ret
  exact ⟨rfl, rfl⟩

theorem place_no (A : Option Addr) (n c : Nat) (at_ : Int) (w : World) (h : n ≤ 65536) (h1 : at_ < 0 ∨ (n : Int) ≤ at_) :
    Calls Try.prog 25 #[.slice A n c, .int .i64 at_] w fun e w' => e = .returned (.bool false) ∧ w = w' := by
  rcases h1 with h1 | h1
  · have h2 : decide (0 ≤ at_) = false := by simp; omega
    go_enter Try.func25, Try.ntmps25
    go_wp2_with (go_at_call 15; refine (rcheck_ok _ _ _ _ h).mono ?_; rintro e w' ⟨rfl, rfl⟩)
    go_ret
    exact ⟨rfl, rfl⟩
  · have h2 : decide (0 ≤ at_) = true := by simp; omega
    have h3 : decide (at_ < (n : Int)) = false := by simp; omega
    go_enter Try.func25, Try.ntmps25
    go_wp2_with (go_at_call 15; refine (rcheck_ok _ _ _ _ h).mono ?_; rintro e w' ⟨rfl, rfl⟩)
    go_ret
    exact ⟨rfl, rfl⟩

theorem place_big (A : Option Addr) (n c : Nat) (at_ : Int) (w : World) (h : 65536 < n) (hm : n ≤ 9223372036854775807) :
    Calls Try.prog 25 #[.slice A n c, .int .i64 at_] w fun e w' => e = .returned (.bool false) ∧ w = w' := by
  go_enter Try.func25, Try.ntmps25
  go_wp2_with (go_at_call 15; refine (rcheck_bad _ _ _ _ h hm).mono ?_; rintro e w' ⟨rfl, rfl⟩)
  go_ret
  exact ⟨rfl, rfl⟩

/-- Are two lists the same? (A word that the walk does not open.) -/
def sameB (xs ys : List Int) : Bool := decide (xs = ys)

theorem sameB_len {xs ys : List Int} (h : xs.length ≠ ys.length) : sameB xs ys = false := by
  unfold sameB
  exact decide_eq_false (fun e => h (by rw [e]))

theorem sameB_at {xs ys : List Int} (k : Nat) (h : nth xs k ≠ nth ys k) : sameB xs ys = false := by
  unfold sameB
  exact decide_eq_false (fun e => h (by rw [e]))

theorem sameB_all {xs ys : List Int} {n : Nat} (h1 : xs.length = n) (h2 : ys.length = n) (h : ∀ j, j < n → nth xs j = nth ys j) : sameB xs ys = true := by
  unfold sameB
  refine decide_eq_true (List.ext_getElem (by omega) fun i hi hj => ?_)
  have := h i (by omega)
  simpa [nth, List.getD, hi, hj] using this

theorem drewN_two (w : World) (a b : Nat) : ∃ k, (w.drewN a).drewN b = w.drewN k := ⟨a + b, by rw [World.drewN_drewN]⟩

def SameAns (b : Bool) (w : World) (e : Ending) (w' : World) : Prop := e = .returned (.bool b) ∧ ∃ k, w' = w.drewN k

set_option maxHeartbeats 400000 in
theorem rsame_any (A A' : Option Addr) (n c n' c' : Nat) (xs ys : List Int) (w : World) (hx : Ints w A n xs) (hy : Ints w A' n' ys) :
    Calls Try.prog 13 #[.slice A n c, .slice A' n' c'] w (SameAns (sameB xs ys) w) := by
  obtain ⟨lx, bx, _, cx⟩ := hx
  obtain ⟨ly, by_, _, cy⟩ := hy
  by_cases hn : n = n'
  · subst hn
    have CX := Lib.hid cx
    have CY := Lib.hid cy
    have LX := Lib.hid lx
    have LY := Lib.hid ly
    clear cx cy lx ly
    go_enter Try.func13, Try.ntmps13
    go_wp2
    go_loopw [13] (fun t wr => ∃ k : Nat, k ≤ n ∧ t = .int .i64 k ∧ (∃ d, wr = w.drewN d) ∧ Hid (∀ j, j < k → nth xs j = nth ys j)) (fun t _ => n - (intOf t).toNat)
    case atStart => exact ⟨0, Nat.zero_le _, rfl, ⟨0, rfl⟩, fun j hj => by omega⟩
    case round =>
      obtain ⟨k, hk, rfl, ⟨d, rfl⟩, hall⟩ := hrel
      by_cases hlt : k < n
      · obtain ⟨b, o, rfl, hb, hc⟩ := CX.out (by omega)
        obtain ⟨b', o', rfl, hb', hc'⟩ := CY.out (by omega)
        have c1 := hc k hlt
        have c2 := hc' k hlt
        clear hc hc'
        by_cases he : nth xs k = nth ys k
        · have hs : (nth xs k != nth ys k) = false := by rw [he]; simp
          go_wp2
          go_quiet (fail)
          go_wp2
          go_roundw
          case rel => exact ⟨k + 1, by omega, by go_num, ⟨_, rfl⟩, fun j hj => by rcases Nat.lt_or_ge j k with h | h; exact hall j h; rwa [show j = k from by omega]⟩
          case measure => simp [intOf]; omega
        · have hs : (nth xs k != nth ys k) = true := by simpa using he
          go_wp2
          go_quiet (fail)
          go_wp2
          go_ret
          exact ⟨ret_bool (sameB_at k he).symm, drewN_two w d nq⟩
      · have : k = n := by omega
        subst this
        have HF := Lib.hid (sameB_all LX.out LY.out hall)
        go_wp2
        go_ret
        exact ⟨ret_bool HF.out.symm, d, rfl⟩
  · have hne : ((n : Int) != (n' : Int)) = true := by simp; omega
    have hf : sameB xs ys = false := sameB_len (by omega)
    have HF := Lib.hid hf
    clear hf lx ly
    go_enter Try.func13, Try.ntmps13
    go_wp2
    go_ret
    exact ⟨ret_bool HF.out.symm, 0, rfl⟩

set_option maxHeartbeats 400000 in
theorem equal_any (A A' : Option Addr) (n c n' c' : Nat) (xs ys : List Int) (w : World) (hx : Ints w A n xs) (hy : Ints w A' n' ys) :
    Calls Try.prog 28 #[.slice A n c, .slice A' n' c'] w (SameAns (sameB xs ys) w) := by
  obtain ⟨lx, bx, _, cx⟩ := hx
  obtain ⟨ly, by_, _, cy⟩ := hy
  by_cases hn : n = n'
  · subst hn
    have CX := Lib.hid cx
    have CY := Lib.hid cy
    have LX := Lib.hid lx
    have LY := Lib.hid ly
    clear cx cy lx ly
    go_enter Try.func28, Try.ntmps28
    go_wp2
    go_loopw [13] (fun t wr => ∃ k : Nat, k ≤ n ∧ t = .int .i64 k ∧ (∃ d, wr = w.drewN d) ∧ Hid (∀ j, j < k → nth xs j = nth ys j)) (fun t _ => n - (intOf t).toNat)
    case atStart => exact ⟨0, Nat.zero_le _, rfl, ⟨0, rfl⟩, fun j hj => by omega⟩
    case round =>
      obtain ⟨k, hk, rfl, ⟨d, rfl⟩, hall⟩ := hrel
      by_cases hlt : k < n
      · obtain ⟨b, o, rfl, hb, hc⟩ := CX.out (by omega)
        obtain ⟨b', o', rfl, hb', hc'⟩ := CY.out (by omega)
        have c1 := hc k hlt
        have c2 := hc' k hlt
        clear hc hc'
        by_cases he : nth xs k = nth ys k
        · have hs : (nth xs k != nth ys k) = false := by rw [he]; simp
          go_wp2
          go_quiet (fail)
          go_wp2
          go_roundw
          case rel => exact ⟨k + 1, by omega, by go_num, ⟨_, rfl⟩, fun j hj => by rcases Nat.lt_or_ge j k with h | h; exact hall j h; rwa [show j = k from by omega]⟩
          case measure => simp [intOf]; omega
        · have hs : (nth xs k != nth ys k) = true := by simpa using he
          go_wp2
          go_quiet (fail)
          go_wp2
          go_ret
          exact ⟨ret_bool (sameB_at k he).symm, drewN_two w d nq⟩
      · have : k = n := by omega
        subst this
        have HF := Lib.hid (sameB_all LX.out LY.out hall)
        go_wp2
        go_ret
        exact ⟨ret_bool HF.out.symm, d, rfl⟩
  · have hne : ((n : Int) != (n' : Int)) = true := by simp; omega
    have hf : sameB xs ys = false := sameB_len (by omega)
    have HF := Lib.hid hf
    clear hf lx ly
    go_enter Try.func28, Try.ntmps28
    go_wp2
    go_ret
    exact ⟨ret_bool HF.out.symm, 0, rfl⟩

theorem same_any (A A' : Option Addr) (n c n' c' : Nat) (xs ys : List Int) (w : World) (hx : Ints w A n xs) (hy : Ints w A' n' ys) :
    Calls Try.prog 16 #[.slice A n c, .slice A' n' c'] w (SameAns (sameB xs ys) w) := by
  have h := equal_any A A' n c n' c' xs ys w hx hy
  have H := Lib.hid h
  clear h hx hy
  go_enter Try.func16, Try.ntmps16
  go_wp2_with fail
  refine H.out.mono ?_
  rintro e w' ⟨rfl, k, rfl⟩
  go_wp2
  go_ret
  exact ⟨rfl, k, rfl⟩

set_option maxHeartbeats 400000 in
theorem clone_any (A : Option Addr) (n c : Nat) (zs : List Int) (w : World) (hx : Ints w A n zs) :
    Calls Try.prog 23 #[.slice A n c] w (NewI 2 zs w) := by
  have HX := Lib.hid hx
  obtain ⟨lx, bx, fx, cx⟩ := hx
  have LX := Lib.hid lx
  have FX := Lib.hid fx
  have CX := Lib.hid cx
  clear lx fx cx
  cases A with
  | none =>
    have hz : n = 0 := by
      rcases Nat.eq_zero_or_pos n with h | h
      · exact h
      · obtain ⟨b, o, e, _⟩ := CX.out h
        cases e
    subst hz
    have hn : zs = [] := List.eq_nil_of_length_eq_zero LX.out
    have HN := Lib.hid hn
    clear hn
    have e1 : ∀ W, (binOp .eql 23 (.slice none 0 c) (.slice none 0 0)).run Try.prog W = .ok (.bool true) W := fun W => Lib.run_eql_slice_nil W 23 2 none 0 c 0 0 Try.underlying23
    go_enter Try.func23, Try.ntmps23
    go_wp2
    go_ret
    rw [HN.out]
    exact ⟨none, 0, rfl, OwnI.nil_ _ _ _, Below.refl _ _⟩
  | some a =>
    have e1 : ∀ W, (binOp .eql 23 (.slice (some a) n c) (.slice none 0 0)).run Try.prog W = .ok (.bool false) W := fun W => Lib.run_eql_slice_nil W 23 2 (some a) n c 0 0 Try.underlying23
    go_enter Try.func23, Try.ntmps23
    go_wp2_with (at_builtin; go_loud (refine wpList_append_ints _ rfl _ _ 23 rfl 2 Try.underlying23 infoI w.heap.size _ _ [] 0 rfl rfl (OwnI.made _ _ w) _ _ _ zs rfl (HX.out.alloc _) (by simpa using bx) (by simp) ?_); intro A' c' w' hown hgrow)
    go_ret
    exact ⟨A', c', rfl, hown, (((Below.refl _ _).alloc (Nat.le_refl _) _).grown hgrow (by simp) (by simp [Value.ownBlock]))⟩

set_option maxHeartbeats 400000 in
theorem with_any (A : Option Addr) (n c : Nat) (zs : List Int) (w : World) (hx : Ints w A n zs) (j : Nat) (hj : j < n) (x : Int) (fx : Fit x) :
    Calls Try.prog 26 #[.slice A n c, .int .i64 j, .int .i64 x] w (NewI 2 (zs.set j x) w) := by
  have HX := Lib.hid hx
  have LX := Lib.hid hx.1
  have bx := hx.2.1
  have FX := Lib.hid fx
  clear hx fx
  go_enter Try.func26, Try.ntmps26
  go_wp2_with (at_builtin; refine wpList_append_ints _ rfl _ _ 23 rfl 2 Try.underlying23 infoI w.heap.size _ _ [] 0 rfl rfl (OwnI.nil_ _ w _) _ _ _ zs rfl HX.out (by simpa using bx) (by simp) ?_; intro A' c' w1 hown hgrow; rw [List.nil_append] at hown ⊢; obtain ⟨g, rfl, hg, hlt, hnc, hcm⟩ := hown.form (by rw [LX.out]; omega); obtain ⟨hc, hf⟩ := hown.at_ (j := j) (by rw [LX.out]; exact hj); have HO := Lib.hid hown; have HG := Lib.hid hgrow; clear hown hgrow; have hj2 : j < zs.length := (by rw [LX.out]; exact hj); unfold maxLen at hcm)
  go_ret
  have e : (Value.slice (some ⟨g, 0, none⟩) zs.length c') = .slice (some ⟨g, 0, none⟩) (zs.set j x).length c' := by rw [List.length_set]
  refine ⟨some ⟨g, 0, none⟩, c', by rw [← e]; rfl, HO.out.set_ j FX.out, ?_⟩
  exact ((Below.refl _ _).grown HG.out (Nat.le_refl _) (by simp [Value.ownBlock])).setCell (by exact hg) _

end Go.Proofs.Ytmmilceemnggiaa

/-
  Layer 17, the program: what a worker may be, who rests, whether one is there; slices.Index, Contains, IndexFunc, ContainsFunc, DeleteFunc, Equal, Clone, and the document's SameInts.
-/
import Derived.Test.YtmndkofdoclihaaWop
import Derived.Lib.SliceRun
import Derived.Deep.LoopGhost
import Derived.Deep.CutBlock
import Derived.Deep.QuietTactic
import Derived.BigQuiet
namespace Go.Proofs.Ytmndkofdoclihaa
open Go.RowKit

set_option maxHeartbeats 1000000 in
theorem nothing_wo (x : Int) (w : World) :
    Calls Try.prog 36 #[.int .i64 x] w (fun e w' => e = .returned (.bool (decide (x < 0 ∨ 3 < x))) ∧ w' = w) := by
  by_cases h0 : x < 0
  · rw [decide_eq_true (show x < 0 ∨ 3 < x by omega)]
    replace h0 : decide (x < 0) = true := by simpa using h0
    go_enter Try.func36, Try.ntmps36
    go_wp2_with fail
    go_ret
    exact ⟨rfl, rfl⟩
  · by_cases h1 : 3 < x
    · rw [decide_eq_true (show x < 0 ∨ 3 < x by omega)]
      replace h0 : decide (x < 0) = false := by simpa using h0
      replace h1 : decide (3 < x) = true := by simpa using h1
      go_enter Try.func36, Try.ntmps36
      go_wp2_with fail
      go_ret
      exact ⟨rfl, rfl⟩
    · rw [decide_eq_false (show ¬ (x < 0 ∨ 3 < x) by omega)]
      replace h0 : decide (x < 0) = false := by simpa using h0
      replace h1 : decide (3 < x) = false := by simpa using h1
      go_enter Try.func36, Try.ntmps36
      go_wp2_with fail
      go_ret
      exact ⟨rfl, rfl⟩

set_option maxHeartbeats 1000000 in
theorem rests_wo (x : Int) (w : World) :
    Calls Try.prog 43 #[.int .i64 x] w (fun e w' => e = .returned (.bool (decide (x = 2 ∨ x = 3))) ∧ w' = w) := by
  by_cases h0 : x = 2
  · rw [decide_eq_true (show x = 2 ∨ x = 3 by omega)]
    replace h0 : (x == 2) = true := by simpa using h0
    go_enter Try.func43, Try.ntmps43
    go_wp2_with fail
    go_ret
    exact ⟨rfl, rfl⟩
  · by_cases h1 : x = 3
    · rw [decide_eq_true (show x = 2 ∨ x = 3 by omega)]
      replace h0 : (x == 2) = false := by simpa using h0
      replace h1 : (x == 3) = true := by simpa using h1
      go_enter Try.func43, Try.ntmps43
      go_wp2_with fail
      go_ret
      exact ⟨rfl, rfl⟩
    · rw [decide_eq_false (show ¬ (x = 2 ∨ x = 3) by omega)]
      replace h0 : (x == 2) = false := by simpa using h0
      replace h1 : (x == 3) = false := by simpa using h1
      go_enter Try.func43, Try.ntmps43
      go_wp2_with fail
      go_ret
      exact ⟨rfl, rfl⟩

set_option maxHeartbeats 1000000 in
theorem isone_wo (A B : Option Addr) (n a m b : Nat) (i : Int) (w : World) :
    Calls Try.prog 41 #[.agg #[.slice A n a, .slice B m b], .int .i64 i] w (RetB (.bool (decide (0 ≤ i ∧ i < n))) w) := by
  by_cases h0 : 0 ≤ i
  · by_cases h1 : i < n
    · rw [decide_eq_true (show 0 ≤ i ∧ i < n by omega)]
      replace h0 := decide_eq_true h0
      replace h1 := decide_eq_true h1
      obtain ⟨kb, bb⟩ := lay1 w #[.slice A n a, .slice B m b] 24
      have q0 := kb.c0
      have lq := kb.lt
      have BB := Lib.hid bb
      clear kb bb
      go_enter Try.func41, Try.ntmps41
      go_wp2_with fail
      go_ret
      exact ⟨rfl, BB.out⟩
    · rw [decide_eq_false (show ¬ (0 ≤ i ∧ i < n) by omega)]
      replace h0 := decide_eq_true h0
      replace h1 := decide_eq_false h1
      obtain ⟨kb, bb⟩ := lay1 w #[.slice A n a, .slice B m b] 24
      have q0 := kb.c0
      have lq := kb.lt
      have BB := Lib.hid bb
      clear kb bb
      go_enter Try.func41, Try.ntmps41
      go_wp2_with fail
      go_ret
      exact ⟨rfl, BB.out⟩
  · rw [decide_eq_false (show ¬ (0 ≤ i ∧ i < n) by omega)]
    replace h0 := decide_eq_false h0
    obtain ⟨kb, bb⟩ := lay1 w #[.slice A n a, .slice B m b] 24
    have q0 := kb.c0
    have lq := kb.lt
    have BB := Lib.hid bb
    clear kb bb
    go_enter Try.func41, Try.ntmps41
    go_wp2_with fail
    go_ret
    exact ⟨rfl, BB.out⟩

theorem mem_wo {l : List Int} {x : Int} {r : Int} (h : AtBt (fun z => decide (z = x)) l r) : decide (0 ≤ r) = decide (x ∈ l) := by
  rw [h.has]
  by_cases q : x ∈ l
  · rw [decide_eq_true q, List.any_eq_true]
    exact ⟨x, q, by simp⟩
  · rw [decide_eq_false q, List.any_eq_false]
    intro z hz
    simp
    rintro rfl
    exact q hz

set_option maxHeartbeats 1000000 in
theorem index_wo (x : Int) (A : Option Addr) (n c : Nat) (l : List Int) (w : World) (hx : Ints w A n l) :
    Calls Try.prog 52 #[.slice A n c, .int .i64 x] w
      (fun e w' => ∃ r : Int, e = .returned (.int .i64 r) ∧ AtBt (fun z => decide (z = x)) l r ∧ Below w.heap.size w w') := by
  have HX := Lib.hid hx
  have LX := Lib.hid hx.1
  have hnc := hx.2.1
  clear hx
  go_enter Try.func52, Try.ntmps52
  go_wp2_with fail
  go_loopw [8] (fun t wr => ∃ k : Nat, k ≤ n ∧ t = .int .i64 k ∧ Hid (Below w.heap.size w wr ∧ ∀ j, j < k → (fun z => decide (z = x)) (nth l j) = false)) (fun t _ => n - (intOf t).toNat)
  case atStart => exact ⟨0, Nat.zero_le _, rfl, Lib.hid ⟨Below.refl _ _, fun i hi => by omega⟩⟩
  case round =>
    rename World => wr
    obtain ⟨k, hk, rfl, OK⟩ := hrel
    by_cases hkn : k < n
    · obtain ⟨b, o, rfl, hb, c0⟩ := (HX.out.below OK.out.1).at_bt hkn
      have hkl : k < l.length := by rw [LX.out]; exact hkn
      obtain ⟨z1, hz⟩ : ∃ z1, nth l k = z1 := ⟨_, rfl⟩
      rw [hz] at c0
      have HZ := Lib.hid hz
      clear hz
      by_cases he : (decide (z1 = x)) = true
      · have t0 : (x == z1) = true := by simp at he ⊢; exact he.symm
        have HH : Hid (AtBt (fun z => decide (z = x)) l k ∧ Below w.heap.size w wr) := Lib.hid ⟨.inr ⟨k, rfl, hkl, by rw [HZ.out]; exact he, OK.out.2⟩, OK.out.1⟩
        clear he
        go_wp2_with fail
        go_ret
        exact ⟨k, rfl, HH.out.1, HH.out.2⟩
      · have he' : (decide (z1 = x)) = false := by simpa using he
        have t0 : (x == z1) = false := by simp at he ⊢; exact fun q => he q.symm
        have OK2 : Hid (Below w.heap.size w wr ∧ ∀ j, j < k + 1 → (fun z => decide (z = x)) (nth l j) = false) := Lib.hid ⟨OK.out.1, fun i hi => by
          by_cases e : i = k
          · subst e; rw [HZ.out]; exact he'
          · exact OK.out.2 i (by omega)⟩
        clear he he' OK
        go_wp2_with fail
        go_roundw
        case rel => exact ⟨k + 1, by omega, by go_num, OK2⟩
        case measure => simp [intOf]; omega
    · have HH : Hid (AtBt (fun z => decide (z = x)) l (-1) ∧ Below w.heap.size w wr) := Lib.hid ⟨.inl ⟨rfl, fun j hj => OK.out.2 j (by have := LX.out; omega)⟩, OK.out.1⟩
      go_wp2_with fail
      go_ret
      exact ⟨-1, rfl, HH.out.1, HH.out.2⟩

set_option maxHeartbeats 1000000 in
theorem contains_wo (x : Int) (A : Option Addr) (n c : Nat) (l : List Int) (w : World) (hx : Ints w A n l) :
    Calls Try.prog 42 #[.slice A n c, .int .i64 x] w (RetB (.bool (decide (x ∈ l))) w) := by
  have HX := Lib.hid hx
  clear hx
  go_enter Try.func42, Try.ntmps42
  go_wp2_with fail
  refine (index_wo x A n c l _ HX.out).mono ?_
  rintro e w1 ⟨r, rfl, hat, b1⟩
  have HA := Lib.hid (mem_wo hat)
  have HB := Lib.hid b1
  clear hat b1
  go_wp2_with fail
  go_ret
  exact ⟨by simpa using HA.out, HB.out⟩

def badW (z : Int) : Bool := decide (z < 0 ∨ 3 < z)
theorem nothingB_wo (x : Int) (w : World) : Calls Try.prog 36 #[.int .i64 x] w (RetB (.bool (badW x)) w) :=
  (nothing_wo x w).mono fun _ _ q => ⟨q.1, by rw [q.2]; exact Below.refl _ _⟩

set_option maxHeartbeats 1000000 in
theorem idxnothing_wo  (A : Option Addr) (n c : Nat) (l : List Int) (w : World) (hx : Ints w A n l) :
    Calls Try.prog 53 #[.slice A n c, .func (.func 36) #[] #[]] w
      (fun e w' => ∃ r : Int, e = .returned (.int .i64 r) ∧ AtBt badW l r ∧ Below w.heap.size w w') := by
  have HX := Lib.hid hx
  have LX := Lib.hid hx.1
  have hnc := hx.2.1
  clear hx
  go_enter Try.func53, Try.ntmps53
  go_wp2_with fail
  go_loopw [8] (fun t wr => ∃ k : Nat, k ≤ n ∧ t = .int .i64 k ∧ Hid (Below w.heap.size w wr ∧ ∀ j, j < k → badW (nth l j) = false)) (fun t _ => n - (intOf t).toNat)
  case atStart => exact ⟨0, Nat.zero_le _, rfl, Lib.hid ⟨Below.refl _ _, fun i hi => by omega⟩⟩
  case round =>
    rename World => wr
    obtain ⟨k, hk, rfl, OK⟩ := hrel
    by_cases hkn : k < n
    · obtain ⟨b, o, rfl, hb, c0⟩ := (HX.out.below OK.out.1).at_bt hkn
      have hkl : k < l.length := by rw [LX.out]; exact hkn
      obtain ⟨z1, hz⟩ : ∃ z1, nth l k = z1 := ⟨_, rfl⟩
      rw [hz] at c0
      have HZ := Lib.hid hz
      have HQ := Lib.hid (nothingB_wo z1 wr)
      clear hz
      go_wp2_with fail
      refine HQ.out.mono ?_
      by_cases he : badW z1 = true
      · try dsimp only at he
        rw [he]
        rintro e w1 ⟨rfl, b1⟩
        have HH : Hid (AtBt badW l k ∧ Below w.heap.size w w1) := Lib.hid ⟨.inr ⟨k, rfl, hkl, by rw [HZ.out]; exact he, OK.out.2⟩, below3 OK.out.1 b1⟩
        clear he b1
        go_wp2_with fail
        go_ret
        exact ⟨k, rfl, HH.out.1, HH.out.2⟩
      · have he' : badW z1 = false := by simpa using he
        try dsimp only at he'
        rw [he']
        rintro e w1 ⟨rfl, b1⟩
        have OK2 : Hid (Below w.heap.size w w1 ∧ ∀ j, j < k + 1 → badW (nth l j) = false) := Lib.hid ⟨below3 OK.out.1 b1, fun i hi => by
          by_cases e : i = k
          · subst e; rw [HZ.out]; exact he'
          · exact OK.out.2 i (by omega)⟩
        clear he he' OK b1
        go_wp2_with fail
        go_roundw
        case rel => exact ⟨k + 1, by omega, by go_num, OK2⟩
        case measure => simp [intOf]; omega
    · have HH : Hid (AtBt badW l (-1) ∧ Below w.heap.size w wr) := Lib.hid ⟨.inl ⟨rfl, fun j hj => OK.out.2 j (by have := LX.out; omega)⟩, OK.out.1⟩
      go_wp2_with fail
      go_ret
      exact ⟨-1, rfl, HH.out.1, HH.out.2⟩

theorem fours_any (l : List Int) : l.any badW = !decide (fours l) := by
  by_cases h : fours l
  · rw [decide_eq_true h]
    simp only [Bool.not_true]
    rw [List.any_eq_false]
    intro x hx
    have := h x hx
    unfold badW
    simp
    omega
  · rw [decide_eq_false h]
    simp only [Bool.not_false]
    rw [List.any_eq_true]
    refine Classical.byContradiction fun q => h fun x hx => ?_
    have : ¬ (x < 0 ∨ 3 < x) := fun r => q ⟨x, hx, decide_eq_true r⟩
    omega

set_option maxHeartbeats 1000000 in
theorem anynothing_wo (A : Option Addr) (n c : Nat) (l : List Int) (w : World) (hx : Ints w A n l) :
    Calls Try.prog 48 #[.slice A n c, .func (.func 36) #[] #[]] w (RetB (.bool (!decide (fours l))) w) := by
  have HX := Lib.hid hx
  clear hx
  go_enter Try.func48, Try.ntmps48
  go_wp2_with fail
  refine (idxnothing_wo A n c l _ HX.out).mono ?_
  rintro e w1 ⟨r, rfl, hat, b1⟩
  have HA := Lib.hid (hat.has.trans (fours_any l))
  have HB := Lib.hid b1
  clear hat b1
  go_wp2_with fail
  go_ret
  exact ⟨by simpa using HA.out, HB.out⟩

theorem isme_wo (y x : Int) (gb : Nat) (w : World) (hc : w.cell? ⟨gb, 0, none⟩ = some (.int .i64 x)) (hlt : gb < w.heap.size) :
    Calls Try.prog 45 #[.int .i64 y, .pointer (some ⟨gb, 0, none⟩)] w (RetB (.bool (decide (y = x))) w) := by
  have := hlt; clear this
  have HE := Lib.hid (show (y == x) = decide (y = x) from rfl)
  go_enter Try.func45, Try.ntmps45
  go_wp2_with fail
  go_ret
  exact ⟨by simp; exact HE.out, Below.refl _ _⟩

set_option maxHeartbeats 1000000 in
theorem idxme_wo (gb : Nat) (x : Int) (A : Option Addr) (n c : Nat) (l : List Int) (w : World) (hx : Ints w A n l) (hk : Bk w gb 3 #[.int .i64 x]) :
    Calls Try.prog 53 #[.slice A n c, .func (.func 45) #[] #[.pointer (some ⟨gb, 0, none⟩)]] w
      (fun e w' => ∃ r : Int, e = .returned (.int .i64 r) ∧ AtBt (fun z => decide (z = x)) l r ∧ Below w.heap.size w w') := by
  have HX := Lib.hid hx
  have LX := Lib.hid hx.1
  have hnc := hx.2.1
  have HKB := Lib.hid hk
  clear hk
  clear hx
  go_enter Try.func53, Try.ntmps53
  go_wp2_with fail
  go_loopw [8] (fun t wr => ∃ k : Nat, k ≤ n ∧ t = .int .i64 k ∧ Hid (Below w.heap.size w wr ∧ ∀ j, j < k → (fun z => decide (z = x)) (nth l j) = false)) (fun t _ => n - (intOf t).toNat)
  case atStart => exact ⟨0, Nat.zero_le _, rfl, Lib.hid ⟨Below.refl _ _, fun i hi => by omega⟩⟩
  case round =>
    rename World => wr
    obtain ⟨k, hk, rfl, OK⟩ := hrel
    by_cases hkn : k < n
    · obtain ⟨b, o, rfl, hb, c0⟩ := (HX.out.below OK.out.1).at_bt hkn
      have hkl : k < l.length := by rw [LX.out]; exact hkn
      obtain ⟨z1, hz⟩ : ∃ z1, nth l k = z1 := ⟨_, rfl⟩
      rw [hz] at c0
      have HZ := Lib.hid hz
      have HQ := Lib.hid (isme_wo z1 x gb wr ((OK.out.1.cell (p := ⟨gb, 0, none⟩) HKB.out.lt).trans HKB.out.one) (Nat.lt_of_lt_of_le HKB.out.lt OK.out.1.size))
      clear hz
      go_wp2_with fail
      refine HQ.out.mono ?_
      by_cases he : (fun z => decide (z = x)) z1 = true
      · try dsimp only at he
        rw [he]
        rintro e w1 ⟨rfl, b1⟩
        have HH : Hid (AtBt (fun z => decide (z = x)) l k ∧ Below w.heap.size w w1) := Lib.hid ⟨.inr ⟨k, rfl, hkl, by rw [HZ.out]; exact he, OK.out.2⟩, below3 OK.out.1 b1⟩
        clear he b1
        go_wp2_with fail
        go_ret
        exact ⟨k, rfl, HH.out.1, HH.out.2⟩
      · have he' : (fun z => decide (z = x)) z1 = false := by simpa using he
        try dsimp only at he'
        rw [he']
        rintro e w1 ⟨rfl, b1⟩
        have OK2 : Hid (Below w.heap.size w w1 ∧ ∀ j, j < k + 1 → (fun z => decide (z = x)) (nth l j) = false) := Lib.hid ⟨below3 OK.out.1 b1, fun i hi => by
          by_cases e : i = k
          · subst e; rw [HZ.out]; exact he'
          · exact OK.out.2 i (by omega)⟩
        clear he he' OK b1
        go_wp2_with fail
        go_roundw
        case rel => exact ⟨k + 1, by omega, by go_num, OK2⟩
        case measure => simp [intOf]; omega
    · have HH : Hid (AtBt (fun z => decide (z = x)) l (-1) ∧ Below w.heap.size w wr) := Lib.hid ⟨.inl ⟨rfl, fun j hj => OK.out.2 j (by have := LX.out; omega)⟩, OK.out.1⟩
      go_wp2_with fail
      go_ret
      exact ⟨-1, rfl, HH.out.1, HH.out.2⟩

set_option maxHeartbeats 4000000 in
theorem del_in (ga n c gb base : Nat) (l : List Int) (x : Int) (w : World) (ho : OwnI 3 w base (some ⟨ga, 0, none⟩) c l) (hn : l.length = n) (hk : Bk w gb 3 #[.int .i64 x]) (hne : ga ≠ gb) (hm : x ∈ l) :
    Calls Try.prog 44 #[.slice (some ⟨ga, 0, none⟩) n c, .func (.func 45) #[] #[.pointer (some ⟨gb, 0, none⟩)]] w
      (fun e w' => e = .returned (.slice (some ⟨ga, 0, none⟩) (butBt l x).length c) ∧ OwnI 3 w' base (some ⟨ga, 0, none⟩) c (butBt l x) ∧ w.grownBy w' (some ga)) := by
  have HX := Lib.hid (ho.intsN hn)
  have HO := Lib.hid ho
  have LX := Lib.hid hn
  have HK := Lib.hid hk
  have HM := Lib.hid hm
  have HNE := Lib.hid hne
  have hcap := ho.cap
  rw [hn] at hcap
  clear ho hk hm hn hne
  obtain ⟨qn, hqn⟩ : ∃ qn, (butBt l x).length = qn := ⟨_, rfl⟩
  rw [hqn]
  have HQN := Lib.hid hqn
  clear hqn
  go_enter Try.func44, Try.ntmps44
  go_wp2_with fail
  refine (idxme_wo gb x (some ⟨ga, 0, none⟩) n c l _ HX.out HK.out).mono ?_
  rintro e w1 ⟨r, rfl, hat, b1⟩
  obtain ⟨k0, rfl, hf1, hf2, hf3⟩ : ∃ k : Nat, r = (k : Int) ∧ k < l.length ∧ nth l k = x ∧ ∀ j, j < k → nth l j ≠ x := by
    rcases hat with ⟨-, h⟩ | ⟨k, rfl, h1, h2, h3⟩
    · obtain ⟨j, hj, e⟩ := nth_memBt.1 HM.out
      have := h j hj
      rw [e] at this
      simp at this
    · exact ⟨k, rfl, h1, by simpa using h2, fun j hj => by simpa using h3 j hj⟩
  have hk0 : k0 < n := by rw [← LX.out]; exact hf1
  have O1 := Lib.hid (HO.out.below b1)
  have K1 := Lib.hid (HK.out.below b1 HK.out.lt)
  have I0 := Lib.hid (DelBt.start hf1 hf2 hf3)
  have G1 : Hid (w.grownBy w1 (some ga)) := Lib.hid ⟨b1.os, b1.tape, b1.output, b1.size, fun k hk _ => b1.block k hk⟩
  have t0 : ((k0 : Int) == -1) = false := by simp <;> omega
  clear b1 hf1 hf2 hf3 HX HO HK
  go_wp2_with fail
  go_loopw [5, 6] (fun u5 u6 wr => ∃ (i j : Nat) (dk : List Int), u5 = .int .i64 i ∧ u6 = .int .i64 j ∧ j ≤ n ∧ i < j ∧ Hid (DelBt l x i j dk) ∧ Hid (OwnI 3 wr base (some ⟨ga, 0, none⟩) c dk) ∧ Hid (w.grownBy wr (some ga)) ∧ Hid (Bk wr gb 3 #[.int .i64 x])) (fun _ u6 _ => n - (intOf u6).toNat)
  case atStart => exact ⟨k0, k0 + 1, l, rfl, by go_num, by omega, by omega, I0, O1, G1, K1⟩
  case round =>
    clear I0 O1 G1 K1
    rename World => wr
    obtain ⟨i, j, dk, rfl, rfl, hj, hij, DI, OD, GW, KW⟩ := hrel
    by_cases hjn : j < n
    · have hdl : dk.length = n := by rw [DI.out.len]; exact LX.out
      obtain ⟨b, o, e, hb, c0⟩ := (OD.out.intsN hdl).at_bt hjn
      injection e with e
      injection e with e1 e2 _
      subst e1 e2
      rw [Nat.zero_add, DI.out.high j (Nat.le_refl _)] at c0
      have hjl : j < l.length := by rw [LX.out]; exact hjn
      obtain ⟨ci, fi⟩ := OD.out.at_ (j := i) (by rw [hdl]; omega)
      have fz : Fit (nth l j) := by have := (OD.out.intsN hdl).fit_bt hjn; rwa [DI.out.high j (Nat.le_refl _)] at this
      obtain ⟨y, hy⟩ : ∃ y, nth l j = y := ⟨_, rfl⟩
      obtain ⟨old, hold⟩ : ∃ old, nth dk i = old := ⟨_, rfl⟩
      rw [hy] at c0 fz
      rw [hold] at ci
      have HY := Lib.hid hy
      have FZ := Lib.hid fz
      have hkc := KW.out.one
      have hkl := KW.out.lt
      have HC := Lib.hid (isme_wo y x gb wr hkc hkl)
      clear hy hold hdl fz hkc hkl
      by_cases he : y = x
      · rw [decide_eq_true he] at HC
        have DN := Lib.hid (DI.out.skip hjl (by rw [HY.out]; exact he))
        clear he ci fi
        go_wp2_with fail
        refine HC.out.mono ?_
        rintro e w2 ⟨rfl, b2⟩
        have O2 := Lib.hid (OD.out.below b2)
        have K2 := Lib.hid (KW.out.below b2 KW.out.lt)
        have G2 := Lib.hid (GW.out.trans (show wr.grownBy w2 (some ga) from ⟨b2.os, b2.tape, b2.output, b2.size, fun k hk _ => b2.block k hk⟩))
        clear b2 c0 hb HC
        go_wp2_with fail
        go_roundw
        case rel => exact ⟨i, j + 1, dk, rfl, by go_num, by omega, by omega, DN, O2, G2, K2⟩
        case measure => simp [intOf]; omega
      · rw [decide_eq_false he] at HC
        have DN := Lib.hid (DI.out.keep hjl (by rw [HY.out]; exact he))
        rw [HY.out] at DN
        clear he
        go_wp2_with fail
        refine HC.out.mono ?_
        rintro e w2 ⟨rfl, b2⟩
        have ci2 := (b2.cell (p := ⟨ga, i, none⟩) hb).trans ci
        have fi2 := (b2.frozen (p := ⟨ga, i, none⟩) hb).trans fi
        have hb2 := Nat.lt_of_lt_of_le hb b2.size
        have O2 := Lib.hid ((OD.out.below b2).set_ i FZ.out)
        have K2 := Lib.hid ((KW.out.below b2 KW.out.lt).far (p := ⟨ga, i, none⟩) (fun q => HNE.out q.symm) (.int .i64 y))
        have G2 := Lib.hid ((GW.out.trans (show wr.grownBy w2 (some ga) from ⟨b2.os, b2.tape, b2.output, b2.size, fun k hk _ => b2.block k hk⟩)).trans (grown_set (g := ga) (i := i) (.int .i64 y)))
        clear b2 c0 hb HC ci fi
        go_wp2_with fail
        go_roundw
        case rel => exact ⟨i + 1, j + 1, dk.set i y, by go_num, by go_num, by omega, by omega, DN, O2, G2, K2⟩
        case measure => simp [intOf]; omega
    · have hjn' : j = n := by omega
      have hdl : dk.length = n := by rw [DI.out.len]; exact LX.out
      obtain ⟨hd1, hd2⟩ := DI.out.done (by rw [LX.out]; omega)
      have hin : i < n := by omega
      have hcl : ∀ ty, (Builtin.clear_ #[22] ty #[.slice (some ⟨ga, i, none⟩) (n - i) (c - i)]).run Try.prog wr = .ok (.tuple #[]) (wr.setCells ga i (List.replicate (n - i) (.int .i64 0))) :=
        fun ty => Lib.run_clear_slice wr _ 3 ty _ Try.underlying22 (fun w => by kernel_rfl) rfl rfl ga i _ _ (by omega) (fun t ht => by rw [(OD.out.at_ (j := i + t) (by rw [hdl]; omega)).1]; rfl) (fun t ht => (OD.out.at_ (j := i + t) (by rw [hdl]; omega)).2)
      have OF := Lib.hid (OwnI.setOut_bt (List.replicate (n - i) (Value.int .i64 0)) i wr (by rw [List.length_take]; omega) (OD.out.short_bt (k := i) (by rw [hdl]; omega) (by simp)))
      have GF := Lib.hid (GW.out.trans (grown_setCells wr ga i (List.replicate (n - i) (Value.int .i64 0))))
      rw [hd1] at OF
      have hic : i < c := by omega
      have HD := Lib.hid (hd2.trans HQN.out)
      clear hd1 hd2 hdl hjn' DI OD GW KW
      go_wp2_with fail
      go_ret
      have e := HD.out
      subst e
      exact ⟨rfl, OF.out, GF.out⟩

set_option maxHeartbeats 4000000 in
theorem del_out (A : Option Addr) (n c gb : Nat) (l : List Int) (x : Int) (w : World) (hx : Ints w A n l) (hk : Bk w gb 3 #[.int .i64 x]) (hm : x ∉ l) :
    Calls Try.prog 44 #[.slice A n c, .func (.func 45) #[] #[.pointer (some ⟨gb, 0, none⟩)]] w (RetB (.slice A n c) w) := by
  have HX := Lib.hid hx
  have HK := Lib.hid hk
  have HM := Lib.hid hm
  clear hx hk hm
  go_enter Try.func44, Try.ntmps44
  go_wp2_with fail
  refine (idxme_wo gb x A n c l _ HX.out HK.out).mono ?_
  rintro e w1 ⟨r, rfl, hat, b1⟩
  obtain rfl : r = -1 := by
    rcases hat with ⟨h, -⟩ | ⟨k, -, h1, h2, -⟩
    · exact h
    · exact absurd (nth_memBt.2 ⟨k, h1, by simpa using h2⟩) HM.out
  have HB := Lib.hid b1
  clear hat b1 HX HK HM
  go_wp2_with fail
  go_ret
  exact ⟨rfl, HB.out⟩

set_option maxHeartbeats 400000 in
theorem sameInts_wo (A A' : Option Addr) (n c n' c' : Nat) (xs ys : List Int) (w : World) (hx : Ints w A n xs) (hy : Ints w A' n' ys) :
    Calls Try.prog 38 #[.slice A n c, .slice A' n' c'] w (RetB (.bool (sameB xs ys)) w) := by
  obtain ⟨lx, bx, _, cx⟩ := hx
  obtain ⟨ly, by_, _, cy⟩ := hy
  by_cases hn : n = n'
  · subst hn
    have CX := Lib.hid cx
    have CY := Lib.hid cy
    have LX := Lib.hid lx
    have LY := Lib.hid ly
    clear cx cy lx ly
    go_enter Try.func38, Try.ntmps38
    go_wp2
    go_loopw [13] (fun t wr => ∃ k : Nat, k ≤ n ∧ t = .int .i64 k ∧ (∃ d, wr = w.drewN d) ∧ Hid (∀ j, j < k → nth xs j = nth ys j)) (fun t _ => n - (intOf t).toNat)
    case atStart => exact ⟨0, Nat.zero_le _, rfl, ⟨0, rfl⟩, fun j hj => by omega⟩
    case round =>
      obtain ⟨k, hk, rfl, ⟨d, rfl⟩, hall⟩ := hrel
      by_cases hlt : k < n
      · obtain ⟨b, o, rfl, hb, hc⟩ := CX.out (by omega)
        obtain ⟨b', o', rfl, hb', hc'⟩ := CY.out (by omega)
        have c1 := hc k hlt
        have c2 := hc' k hlt
        clear hc hc'
        by_cases he : nth xs k = nth ys k
        · have hs : (nth xs k != nth ys k) = false := by rw [he]; simp
          go_wp2
          go_quiet (fail)
          go_wp2
          go_roundw
          case rel => exact ⟨k + 1, by omega, by go_num, ⟨_, rfl⟩, fun j hj => by rcases Nat.lt_or_ge j k with h | h; exact hall j h; rwa [show j = k from by omega]⟩
          case measure => simp [intOf]; omega
        · have hs : (nth xs k != nth ys k) = true := by simpa using he
          have HF := Lib.hid (sameB_at k he)
          clear he
          go_wp2
          go_quiet (fail)
          go_wp2
          go_ret
          exact RetB.of (ret_bool HF.out.symm) (below_drewN (below_drewN (Below.refl _ _) d) _)
      · have : k = n := by omega
        subst this
        have HF := Lib.hid (sameB_all LX.out LY.out hall)
        go_wp2
        go_ret
        exact RetB.of (ret_bool HF.out.symm) (below_drewN (Below.refl _ _) d)
  · have hne : ((n : Int) != (n' : Int)) = true := by simp; omega
    have hf : sameB xs ys = false := sameB_len (by omega)
    have HF := Lib.hid hf
    clear hf lx ly
    go_enter Try.func38, Try.ntmps38
    go_wp2
    go_ret
    exact RetB.of (ret_bool HF.out.symm) (Below.refl _ _)

set_option maxHeartbeats 400000 in
theorem equal_wo (A A' : Option Addr) (n c n' c' : Nat) (xs ys : List Int) (w : World) (hx : Ints w A n xs) (hy : Ints w A' n' ys) :
    Calls Try.prog 39 #[.slice A n c, .slice A' n' c'] w (RetB (.bool (sameB xs ys)) w) := by
  obtain ⟨lx, bx, _, cx⟩ := hx
  obtain ⟨ly, by_, _, cy⟩ := hy
  by_cases hn : n = n'
  · subst hn
    have CX := Lib.hid cx
    have CY := Lib.hid cy
    have LX := Lib.hid lx
    have LY := Lib.hid ly
    clear cx cy lx ly
    go_enter Try.func39, Try.ntmps39
    go_wp2
    go_loopw [13] (fun t wr => ∃ k : Nat, k ≤ n ∧ t = .int .i64 k ∧ (∃ d, wr = w.drewN d) ∧ Hid (∀ j, j < k → nth xs j = nth ys j)) (fun t _ => n - (intOf t).toNat)
    case atStart => exact ⟨0, Nat.zero_le _, rfl, ⟨0, rfl⟩, fun j hj => by omega⟩
    case round =>
      obtain ⟨k, hk, rfl, ⟨d, rfl⟩, hall⟩ := hrel
      by_cases hlt : k < n
      · obtain ⟨b, o, rfl, hb, hc⟩ := CX.out (by omega)
        obtain ⟨b', o', rfl, hb', hc'⟩ := CY.out (by omega)
        have c1 := hc k hlt
        have c2 := hc' k hlt
        clear hc hc'
        by_cases he : nth xs k = nth ys k
        · have hs : (nth xs k != nth ys k) = false := by rw [he]; simp
          go_wp2
          go_quiet (fail)
          go_wp2
          go_roundw
          case rel => exact ⟨k + 1, by omega, by go_num, ⟨_, rfl⟩, fun j hj => by rcases Nat.lt_or_ge j k with h | h; exact hall j h; rwa [show j = k from by omega]⟩
          case measure => simp [intOf]; omega
        · have hs : (nth xs k != nth ys k) = true := by simpa using he
          have HF := Lib.hid (sameB_at k he)
          clear he
          go_wp2
          go_quiet (fail)
          go_wp2
          go_ret
          exact RetB.of (ret_bool HF.out.symm) (below_drewN (below_drewN (Below.refl _ _) d) _)
      · have : k = n := by omega
        subst this
        have HF := Lib.hid (sameB_all LX.out LY.out hall)
        go_wp2
        go_ret
        exact RetB.of (ret_bool HF.out.symm) (below_drewN (Below.refl _ _) d)
  · have hne : ((n : Int) != (n' : Int)) = true := by simp; omega
    have hf : sameB xs ys = false := sameB_len (by omega)
    have HF := Lib.hid hf
    clear hf lx ly
    go_enter Try.func39, Try.ntmps39
    go_wp2
    go_ret
    exact RetB.of (ret_bool HF.out.symm) (Below.refl _ _)

theorem below_grownW {w w' : World} {t : TypeId} (h : (w.alloc (.cells #[] t)).grownBy w' (Value.slice (some ⟨w.heap.size, 0, none⟩) 0 0).ownBlock) : Below w.heap.size w w' :=
  ((Below.refl w.heap.size w).alloc (Nat.le_refl _) _).grown h (by simp) (by intro k hk; simp [Value.ownBlock] at hk; omega)

theorem cloneI_wo (A : Option Addr) (n c : Nat) (gs : List Int) (w : World) (hp : Ints w A n gs) :
    Calls Try.prog 47 #[.slice A n c] w (NewI 3 gs w) := by
  have q : ∀ (w : World) (a : Option Addr) (n c n' c' : Nat), (binOp .eql 22 (.slice a n c) (.slice none n' c')).run Try.prog w = .ok (.bool a.isNone) w := fun w a n c n' c' => Lib.run_eql_slice_nil w _ _ a n c n' c' Try.underlying22
  have HP := Lib.hid hp
  have HN := Lib.hid hp.1
  have hn : n * 8 ≤ 140737488351232 := hp.2.1
  cases A with
  | none =>
    have h0 : n = 0 := by
      rcases Nat.eq_zero_or_pos n with h | h
      · exact h
      · obtain ⟨b, o, e, _⟩ := hp.2.2.2 h
        cases e
    have HG : Hid (gs = []) := Lib.hid (List.eq_nil_of_length_eq_zero (by rw [hp.1]; exact h0))
    clear hp
    subst h0
    go_enter Try.func47, Try.ntmps47
    go_wp2
    go_ret
    have := HG.out
    subst this
    exact ⟨none, 0, rfl, OwnI.nil_ _ _ _, Below.refl _ _⟩
  | some a =>
    clear hp
    go_enter Try.func47, Try.ntmps47
    go_wp2_with (at_builtin; refine wpList_append_ints _ rfl _ _ 22 rfl 3 Try.underlying22 Try.intInfo17 w.heap.size (some ⟨w.heap.size, 0, none⟩) 0 [] 0 rfl rfl (OwnI.made _ _ _) (some a) n c gs rfl (HP.out.alloc _) (by simp; omega) (by simp) ?_; intro A' c' w' ho hg; rw [List.nil_append] at ho ⊢; have HO := Lib.hid ho; have HB := Lib.hid (below_grownW hg); clear ho hg)
    go_ret
    exact ⟨A', c', rfl, HO.out, HB.out⟩

end Go.Proofs.Ytmndkofdoclihaa

/-
  The walk of the law CodeUnits of layer 4.
-/
import Derived.Test.YtcbgmhbmdklbfaaLive
namespace Go.Proofs.Ytcbgmhbmdklbfaa
open Go.RowKit

theorem Try.instrInfo : (Try.prog.info? 42).map (fun i => (i.zero, i.size, i.bytes)) = some (some (.agg #[.int .i64 0, .int .i64 0, .int .i64 0]), 3, 24) := by kernel_rfl

open Classical in
/-- There is an exit among the first k. -/
noncomputable def exB (p : List I3) (k : Nat) : Bool := decide (∃ j, j < k ∧ jO p j = 9)
/-- How many of the first k are reached. -/
def rch (p : List I3) (k : Nat) : Nat := min k (runLen p)

theorem exB_zero (p : List I3) : exB p 0 = false := decide_eq_false (fun ⟨j, h, _⟩ => by omega)
theorem exB_hit {p : List I3} {k : Nat} (h : exB p k = true) : exB p (k + 1) = true := by
  obtain ⟨j, hj, he⟩ := of_decide_eq_true h
  exact decide_eq_true ⟨j, by omega, he⟩
theorem exB_no {p : List I3} {k : Nat} (h : exB p k = false) : ∀ j, j < k → jO p j ≠ 9 := fun j hj e => of_decide_eq_false h ⟨j, hj, e⟩
theorem exB_next {p : List I3} {k : Nat} (h : exB p k = false) : exB p (k + 1) = (jO p k == 9) := by
  by_cases he : jO p k = 9
  · rw [show (jO p k == 9) = true by simpa using he]
    exact decide_eq_true ⟨k, by omega, he⟩
  · rw [show (jO p k == 9) = false by simpa using he]
    refine decide_eq_false (fun ⟨j, hj, e⟩ => ?_)
    rcases Nat.lt_or_ge j k with h1 | h1
    · exact exB_no h j h1 e
    · obtain rfl : j = k := by omega
      exact he e
theorem rch_no {p : List I3} {k : Nat} (hk : k < p.length) (h : exB p k = false) : rch p k = k ∧ rch p (k + 1) = k + 1 := by
  have hr : k + 1 ≤ runLen p := by
    by_cases he : jO p k = 9
    · rw [runLen_exit hk (exB_no h) he]; omega
    · rcases Nat.lt_or_ge k (runLen p) with h1 | h1
      · exact h1
      · exfalso
        have hx := runLen_pos (p := p) (by omega)
        have hl : hasExit p := by
          refine Classical.byContradiction (fun hn => ?_)
          have := runLen_none (not_exit hn)
          omega
        have := (runLen_last hl).2
        exact exB_no h (runLen p - 1) (by omega) this
  unfold rch
  omega
theorem rch_hit {p : List I3} {k : Nat} (h : exB p k = true) : rch p k = runLen p ∧ rch p (k + 1) = runLen p := by
  have hr : runLen p ≤ k := by
    rcases Nat.lt_or_ge k (runLen p) with h1 | h1
    · obtain ⟨j, hj, he⟩ := of_decide_eq_true h
      exact absurd he (runLen_before (by omega))
    · exact h1
  unfold rch
  omega
theorem rch_all (p : List I3) : rch p p.length = runLen p := by unfold rch; have := runLen_le p; omega
theorem exB_all {p : List I3} : exB p p.length = true ↔ hasExit p := ⟨fun h => (of_decide_eq_true h : ∃ j, j < p.length ∧ jO p j = 9), fun h => decide_eq_true (show ∃ j, j < p.length ∧ jO p j = 9 from h)⟩

/-- The relation of the loop. -/
def LURel (p : List I3) (n : Nat) (w : World) (u x t : Value) (wr : World) : Prop := ∃ k : Nat, k ≤ n ∧ t = .int .i64 k ∧ u = .int .i64 ((rch p k : Nat) : Int) ∧ x = .bool (exB p k) ∧ Below w.heap.size w wr

theorem grown_nil {w w1 : World} {n d : Nat} (hg : w.grownBy w1 (Value.slice none n d).ownBlock) : Below w.heap.size w w1 := (Below.refl _ w).grown hg (Nat.le_refl _) (by simp [Value.ownBlock])

theorem units_more {p q : List I3} (h : okP (p ++ q)) (hx : ¬ hasExit p) : units p ≤ units (p ++ q) := by
  unfold units
  rw [runLen_app_none q hx, runLen_none (not_exit hx), unitsK_app_right]
  have h1 : ∀ k, k ≤ q.length → 0 ≤ unitsK q k := by
    intro k
    induction k with
    | zero => intro _; simp [unitsK]
    | succ k ih =>
      intro hk
      have := ih (by omega)
      have hm := may_bound (h.2.2 (p.length + k) (by rw [List.length_append]; omega))
      rw [ith_app_right] at hm
      unfold unitsK
      split
      · rename_i e
        have := hm.2.2.2.2.2.2 e
        unfold jA
        omega
      · omega
  have := h1 (runLen q) (runLen_le q)
  omega

set_option maxRecDepth 100000 in
set_option maxHeartbeats 2000000 in
theorem lunits_big (A B : Option Addr) (n c m d : Nat) (w : World) (hn : n ≤ 9223372036854775807) (hm : m ≤ 9223372036854775807) (h : 100 < n ∨ 100 < m) :
    Calls Try.prog 7 #[.slice A n c, .slice B m d] w (TrueAns w) := by
  by_cases h1 : 100 < n
  all_goals
    go_enter Try.func7, Try.ntmps7
    go_wp2_with fail
    refine (live_any _).mono ?_
    rintro e w1 ⟨rfl, hb1⟩
    have HB := Lib.hid hb1
    clear hb1
    go_wp2
    go_ret
    exact ⟨rfl, HB.out⟩

set_option maxRecDepth 100000 in
set_option maxHeartbeats 2000000 in
theorem lunits_no (A B : Option Addr) (n c m d : Nat) (p : List I3) (w : World) (hp : Prog w A n c p) (hn : n ≤ 100) (hm : m ≤ 100) (h : ¬ okP p) :
    Calls Try.prog 7 #[.slice A n c, .slice B m d] w (TrueAns w) := by
  have HP := Lib.hid hp
  have HU := Lib.hid (unitsA_no h)
  have HE := Lib.hid (errP_no h)
  clear hp h
  go_enter Try.func7, Try.ntmps7
  go_wp2_with fail
  refine (live_any _).mono ?_
  rintro e w1 ⟨rfl, hb1⟩
  have HB1 := Lib.hid hb1
  clear hb1
  go_wp2_with fail
  refine (units_any A n c p _ (HP.out.below HB1.out)).mono ?_
  rintro e w2 ⟨he, hb2⟩
  rw [HU.out] at he
  subst he
  have HB2 := Lib.hid (below3 HB1.out hb2)
  clear hb2
  go_wp2_with fail
  refine (check_any A n c p _ (HP.out.below HB2.out)).mono ?_
  rintro e w3 ⟨rfl, hb3⟩
  rw [HE.out]
  have HB3 := Lib.hid (below3 HB2.out hb3)
  clear hb3
  go_wp2
  go_ret
  exact ⟨rfl, HB3.out⟩

set_option maxRecDepth 100000 in
set_option maxHeartbeats 4000000 in
theorem lunits_ok (A B : Option Addr) (n c m d : Nat) (p q : List I3) (w : World) (hp : Prog w A n c p) (hq : Prog w B m d q) (hm : m ≤ 100) (h : okP p) :
    Calls Try.prog 7 #[.slice A n c, .slice B m d] w (TrueAns w) := by
  have HP := Lib.hid hp
  have HQ := Lib.hid hq
  have HN := Lib.hid hp.1
  have HM := Lib.hid hq.1
  have hn : n ≤ 32 := by have := h.2.1; rw [HN.out] at this; exact this
  have hn1 : 1 ≤ n := by have := h.1; rw [HN.out] at this; exact this
  have HU := Lib.hid (unitsA_ok h)
  have HO := Lib.hid h
  have hb := unitsK_bound h (runLen_le p)
  have hrl := runLen_le p
  rw [HN.out] at hrl
  clear hp hq h
  go_enter Try.func7, Try.ntmps7
  go_wp2_with fail
  refine (live_any _).mono ?_
  rintro e w1 ⟨rfl, hb1⟩
  have HB1 := Lib.hid hb1
  clear hb1
  go_wp2_with fail
  refine (units_any A n c p _ (HP.out.below HB1.out)).mono ?_
  rintro e w2 ⟨he, hb2⟩
  rw [HU.out] at he
  subst he
  have HB2 := Lib.hid (below3 HB1.out hb2)
  clear hb2
  go_wp2
  go_loopw [8, 9, 43] (fun u x t wr => LURel p n w u x t wr) (fun _ _ t _ => n - (intOf t).toNat)
  case atStart => exact ⟨0, Nat.zero_le _, rfl, by simp [rch], by rw [exB_zero], HB2.out⟩
  case round =>
    obtain ⟨k, hk, rfl, rfl, rfl, hb3⟩ := hrel
    have HB := Lib.hid hb3
    clear hb3
    by_cases hlt : k < n
    · obtain ⟨b, o, rfl, hbl, g0, g1, g2⟩ := (HP.out.below HB.out).at_ hlt
      have HB3 := fun X => Lib.hid (HB.out.alloc HB.out.size X)
      by_cases hx : exB p k = true
      · have hrc := rch_hit (p := p) (k := k) hx
        have HR : Hid (rch p (k + 1) = rch p k) := Lib.hid (by rw [hrc.1, hrc.2])
        have HX := Lib.hid (exB_hit hx)
        clear hrc
        go_wp2
        go_roundw
        case rel => exact ⟨k + 1, by omega, by go_num, by rw [HR.out], by rw [HX.out], (HB3 _).out⟩
        case measure => simp [intOf]; omega
      · replace hx := bool_no hx
        have hrc := rch_no (p := p) (k := k) (by rw [HN.out]; exact hlt) hx
        have HR : Hid (((rch p k : Nat) : Int) + 1 = ((rch p (k + 1) : Nat) : Int)) := Lib.hid (by rw [hrc.1, hrc.2]; rfl)
        have HX := Lib.hid (exB_next hx)
        have hrk : rch p k ≤ n := by omega
        clear hrc
        go_wp2
        go_roundw
        case rel => exact ⟨k + 1, by omega, by go_num, by rw [HR.out], by rw [HX.out], (HB3 _).out⟩
        case measure => simp [intOf]; omega
    · obtain rfl : k = n := by omega
      have hra : rch p k = runLen p := by rw [← HN.out]; exact rch_all p
      rw [hra]
      generalize hex : exB p k = ex
      have HEX : Hid (ex = true ↔ hasExit p) := Lib.hid (by rw [← hex, ← HN.out]; exact exB_all)
      have hu1 : ((runLen p : Nat) : Int) ≤ units p := hb.1
      have hu2 : units p ≤ 100 * ((runLen p : Nat) : Int) := hb.2
      clear hra hex hlt hb
      go_wp2_with (first
        | (at_builtin; refine wpList_append_prog _ rfl _ _ 25 rfl 42 _ rfl Try.underlying25 Try.instrInfo w.heap.size none 0 [] 0 rfl rfl (OwnP.nil_ _ _ _) A k c p rfl (HP.out.below HB.out) (by simp; omega) HB.out.size ?_
           intro A1 c1 w3 hown3 hg3
           have HO3 := Lib.hid hown3
           have HB3 := Lib.hid (HB.out.grown hg3 HB.out.size (by simp [Value.ownBlock]))
           clear hown3 hg3)
        | (at_builtin; refine wpList_append_prog _ rfl _ _ 25 rfl 42 _ rfl Try.underlying25 Try.instrInfo w.heap.size A1 c1 ([] ++ p) _ (by simp) rfl HO3.out B m d q rfl (HQ.out.below HB3.out) (by simp [HN.out]; omega) HB3.out.size ?_
           intro A2 c2 w4 hown4 hg4
           have HO4 := Lib.hid hown4
           have HB4 := Lib.hid (HB3.out.grown hg4 HB3.out.size HO3.out.block)
           clear hown4 hg4))
      have HO5 : Hid (Prog w4 A2 (p.length + q.length) c2 (p ++ q)) := Lib.hid (by have := HO4.out.prog; simpa using this)
      clear hu1 hu2
      by_cases hok : okP (p ++ q)
      · have HU2 := Lib.hid (unitsA_ok hok)
        have HMO : Hid (¬ hasExit p → units p ≤ units (p ++ q)) := Lib.hid (fun hx => units_more hok hx)
        clear hok
        refine (units_any A2 _ c2 _ _ HO5.out).mono ?_
        rintro e w5 ⟨he, hb5⟩
        rw [HU2.out] at he
        subst he
        have HB5 := Lib.hid (below3 HB4.out hb5)
        clear hb5
        cases ex with
        | true =>
          have hue : units (p ++ q) = units p := units_app_exit q (HEX.out.1 rfl)
          rw [hue]
          clear hue
          go_wp2
          go_ret
          exact ⟨rfl, HB5.out⟩
        | false =>
          have hue : units p ≤ units (p ++ q) := HMO.out (fun h => by have := HEX.out.2 h; cases this)
          go_wp2
          go_ret
          exact ⟨rfl, HB5.out⟩
      · have HU2 := Lib.hid (unitsA_no hok)
        have HE2 := Lib.hid (errP_no hok)
        clear hok
        refine (units_any A2 _ c2 _ _ HO5.out).mono ?_
        rintro e w5 ⟨he, hb5⟩
        rw [HU2.out] at he
        subst he
        have HB5 := Lib.hid (below3 HB4.out hb5)
        have HO6 := Lib.hid (HO5.out.below hb5)
        clear hb5
        go_wp2_with fail
        refine (check_any A2 _ c2 _ _ HO6.out).mono ?_
        rintro e w6 ⟨rfl, hb6⟩
        rw [HE2.out]
        have HB6 := Lib.hid (below3 HB5.out hb6)
        clear hb6
        go_wp2
        go_ret
        exact ⟨rfl, HB6.out⟩

theorem lunits_any (A B : Option Addr) (n c m d : Nat) (p q : List I3) (w : World) (hp : Prog w A n c p) (hq : Prog w B m d q) :
    Calls Try.prog 7 #[.slice A n c, .slice B m d] w (TrueAns w) := by
  by_cases h : 100 < n ∨ 100 < m
  · exact lunits_big A B n c m d w (by have := hp.2.1; omega) (by have := hq.2.1; omega) h
  · by_cases hok : okP p
    · exact lunits_ok A B n c m d p q w hp hq (by omega) hok
    · exact lunits_no A B n c m d p w hp (by omega) (by omega) hok

end Go.Proofs.Ytcbgmhbmdklbfaa

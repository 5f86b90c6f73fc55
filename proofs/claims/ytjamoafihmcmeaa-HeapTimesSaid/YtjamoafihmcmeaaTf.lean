/-
  The document's layer 8: whether there is one of an id; a list's timers in order; whether two have the same.
-/
import Derived.Test.YtjamoafihmcmeaaTe
namespace Go.Proofs.Ytjamoafihmcmeaa
open Go.RowKit

def hasId (l : List Tm) (id : Int) : Prop := ∃ j, j < l.length ∧ jA l j = id
noncomputable instance (l : List Tm) (id : Int) : Decidable (hasId l id) := Classical.propDecidable _
/-- A place, or -1. -/
def AtA (l : List Tm) (id : Int) (w : World) (e : Ending) (w' : World) : Prop := ∃ r : Int, e = .returned (.int .i64 r) ∧ (0 ≤ r ↔ hasId l id) ∧ Below w.heap.size w w'

set_option maxHeartbeats 1000000 in
theorem at8_any (A : Option Addr) (n c : Nat) (l : List Tm) (id : Int) (w : World) (hx : Tms w A n c l) :
    Calls Try.prog 37 #[.slice A n c, .int .i64 id] w (AtA l id w) := by
  have HX := Lib.hid hx
  have LX := Lib.hid hx.1
  have hnc := hx.2.1
  clear hx
  go_enter Try.func37, Try.ntmps37
  go_wp2_with fail
  go_loopw [9] (fun t wr => ∃ k : Nat, k ≤ n ∧ t = .int .i64 k ∧ Hid (Below w.heap.size w wr ∧ ∀ j, j < k → jA l j ≠ id)) (fun t _ => n - (intOf t).toNat)
  case atStart => exact ⟨0, Nat.zero_le _, rfl, Lib.hid ⟨Below.refl _ _, fun i hi => by omega⟩⟩
  case round =>
    rename World => wr
    obtain ⟨k, hk, rfl, OK⟩ := hrel
    by_cases hkn : k < n
    · obtain ⟨bL, oL, rfl, hbL, c0, c1⟩ := (HX.out.below OK.out.1).at_ hkn
      have hkl : k < l.length := by rw [LX.out]; exact hkn
      obtain ⟨z1, hz1⟩ : ∃ z, jO l k = z := ⟨_, rfl⟩
      obtain ⟨z2, hz2⟩ : ∃ z, jA l k = z := ⟨_, rfl⟩
      rw [hz1] at c0
      rw [hz2] at c1
      have HZ2 := Lib.hid hz2
      have ba := (Below.refl wr.heap.size wr).alloc (Nat.le_refl _) (.cells #[.int .i64 z1, .int .i64 z2] 24)
      have ka := Bk.new wr 24 #[.int .i64 z1, .int .i64 z2]
      have bv := below3 OK.out.1 ba
      obtain ⟨g, hg⟩ : ∃ g, wr.heap.size = g := ⟨_, rfl⟩
      obtain ⟨V, hV⟩ : ∃ V, wr.alloc (.cells #[.int .i64 z1, .int .i64 z2] 24) = V := ⟨_, rfl⟩
      rw [hV] at ka bv
      rw [hg] at ka
      have HV := Lib.hid hV
      have HG := Lib.hid hg
      have KA := Lib.hid ka
      have BV := Lib.hid bv
      clear hV hg ka bv ba hz1 hz2
      go_upto_region 4 with fail
      rw [HV.out]
      try rw [HG.out]
      clear HV HG c0 c1 hbL
      have a0 : _ = some (Value.int .i64 z1) := KA.out.cell 0
      have a1 : _ = some (Value.int .i64 z2) := KA.out.cell 1
      have la := KA.out.lt
      by_cases he : z2 = id
      · have heb : (z2 == id) = true := by simpa using he
        have HH : Hid (hasId l id) := Lib.hid ⟨k, hkl, by rw [HZ2.out]; exact he⟩
        clear he
        go_wp2
        go_ret
        exact ⟨k, rfl, ⟨fun _ => HH.out, fun _ => by omega⟩, BV.out⟩
      · have heb : (z2 == id) = false := by simpa using he
        have OK2 : Hid (Below w.heap.size w V ∧ ∀ j, j < k + 1 → jA l j ≠ id) := Lib.hid ⟨BV.out, fun i hi => by
          by_cases e : i = k
          · subst e; rw [HZ2.out]; exact he
          · exact OK.out.2 i (by omega)⟩
        clear he OK
        go_wp2
        go_roundw
        case rel => exact ⟨k + 1, by omega, by go_num, OK2⟩
        case measure => simp [intOf]; omega
    · obtain rfl : n = k := by omega
      go_wp2
      go_ret
      exact ⟨-1, rfl, ⟨fun h => by omega, fun ⟨j, hj, e⟩ => absurd e (OK.out.2 j (by have := LX.out; omega))⟩, OK.out.1⟩

theorem same8_any (A A' : Option Addr) (n c n' c' : Nat) (xs ys : List Tm) (w : World) (hx : Tms w A n c xs) (hy : Tms w A' n' c' ys) (hn : n ≤ 1000) (hn' : n' ≤ 1000) :
    Calls Try.prog 29 #[.slice A n c, .slice A' n' c'] w (RetB (.bool (sameT (orderF xs) (orderF ys))) w) := by
  have HX := Lib.hid hx
  have HY := Lib.hid hy
  clear hx hy
  go_enter Try.func29, Try.ntmps29
  go_wp2_with fail
  refine (order_any A n c xs _ HX.out hn).mono ?_
  rintro e w1 ⟨A1, c1, rfl, o1, b1⟩
  have O1 := Lib.hid o1
  have B1 := Lib.hid b1
  clear o1 b1
  go_wp2_with fail
  refine (order_any A' n' c' ys _ (HY.out.below B1.out) hn').mono ?_
  rintro e w2 ⟨A2, c2, rfl, o2, b2⟩
  have O1 := Lib.hid (O1.out.below b2)
  have O2 := Lib.hid o2
  have B2 := Lib.hid (below3 B1.out b2)
  clear o2 b2 B1
  go_wp2_with fail
  refine (samelist_any A1 A2 _ c1 _ c2 _ _ _ O1.out.tms O2.out.tms).mono ?_
  rintro e w3 ⟨rfl, d, hd⟩
  have B3 := below_drewN B2.out d
  rw [← hd] at B3
  have B3 := Lib.hid B3
  clear hd
  go_wp2
  go_ret
  exact ⟨rfl, B3.out⟩

/-- An error's number, and a list. -/
def ListR (r : Int × List Tm) (w : World) (e : Ending) (w' : World) : Prop :=
  ∃ A c, e = .returned (.tuple #[.slice A r.2.length c, .int .i64 r.1]) ∧ OwnT 24 w' w.heap.size A c r.2 ∧ Below w.heap.size w w'
noncomputable def sortedR (l : List Tm) : Int × List Tm := if heapOk l then (0, orderF l) else (1, [])
theorem sorted_any (A : Option Addr) (n c : Nat) (l : List Tm) (w : World) (hx : Tms w A n c l) (hn : n ≤ 1000) :
    Calls Try.prog 20 #[.slice A n c] w (ListR (sortedR l) w) := by
  have HX := Lib.hid hx
  clear hx
  unfold sortedR
  by_cases hok : heapOk l
  · rw [if_pos hok]
    go_enter Try.func20, Try.ntmps20
    go_wp2_with fail
    refine (rcheck_any A n c l _ HX.out).mono ?_
    rw [if_pos hok]
    rintro e w1 ⟨rfl, b1⟩
    have B1 := Lib.hid b1
    clear b1
    go_wp2_with fail
    refine (order_any A n c l _ (HX.out.below B1.out) hn).mono ?_
    rintro e w2 ⟨A2, c2, rfl, o2, b2⟩
    have O2 := Lib.hid o2
    have B2 := Lib.hid (below3 B1.out b2)
    clear o2 b2
    go_wp2
    exact bodyPost_ret (v := .tuple #[.slice A2 (orderF l).length c2, .int .i64 0]) (by simp [results, Try.results20, go_sem]) rfl ⟨A2, c2, rfl, O2.out.base B1.out.size, B2.out⟩
  · rw [if_neg hok]
    go_enter Try.func20, Try.ntmps20
    go_wp2_with fail
    refine (rcheck_any A n c l _ HX.out).mono ?_
    rw [if_neg hok]
    rintro e w1 ⟨rfl, b1⟩
    have B1 := Lib.hid b1
    clear b1
    go_wp2
    exact bodyPost_ret (v := .tuple #[.slice none 0 0, .int .i64 1]) (by simp [results, Try.results20, go_sem]) rfl ⟨none, 0, rfl, OwnT.nil_ _ _ _, B1.out⟩

end Go.Proofs.Ytjamoafihmcmeaa

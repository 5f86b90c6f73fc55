/-
  Contracts of Units of layer 4, and of a program up to its exit by the document: the program's and the document's.
-/
import Derived.Test.YtlbmlhcphoiaeaaDoorCheck
import Derived.Test.YtlbmlhcphoiaeaaDoorFind
namespace Go.Proofs.YtlbmlhcphoiaeaaDoor
open Go.RowKit

/-- The relation of Run's loop: no exit so far. -/
def RunRel (p : List I3) (n : Nat) (w : World) (t : Value) (wr : World) : Prop := ∃ k : Nat, k ≤ n ∧ t = .int .i64 k ∧ (∀ j, j < k → jO p j ≠ 9) ∧ Below w.heap.size w wr

set_option maxHeartbeats 1000000 in
theorem run_any (A : Option Addr) (n c : Nat) (p : List I3) (w : World) (hp : Prog w A n c p) :
    Calls Tryd.prog 29 #[.slice A n c] w (RetB (.slice A (runLen p) c) w) := by
  have HP := Lib.hid hp
  have HN := Lib.hid hp.1
  have hn := Nat.le_trans hp.2.1.1 hp.2.1.2
  have hc := hp.2.1.1
  clear hp
  go_enter Tryd.func29, Tryd.ntmps29
  go_wp2
  go_loopw [7] (fun t wr => RunRel p n w t wr) (fun t _ => n - (intOf t).toNat)
  case atStart => exact ⟨0, Nat.zero_le _, rfl, fun j hj => absurd hj (by omega), Below.refl _ _⟩
  case round =>
    obtain ⟨k, hk, rfl, hq, hb⟩ := hrel
    have HQ := Lib.hid hq
    have HB := Lib.hid hb
    clear hq hb
    by_cases hlt : k < n
    · obtain ⟨b, o, rfl, hbl, g0, g1, g2⟩ := (HP.out.below HB.out).at_ hlt
      have HB1 := fun X => Lib.hid (HB.out.alloc HB.out.size X)
      by_cases hx : jO p k = 9
      · have hx1 : (jO p k == 9) = true := by simpa using hx
        have H : Hid (runLen p = k + 1) := Lib.hid (runLen_exit (by rw [HN.out]; exact hlt) HQ.out hx)
        have hc1 : (k : Int) + 1 ≤ (c : Int) := by omega
        have hc2 : (0 : Int) ≤ (k : Int) + 1 := by omega
        clear hx
        go_wp2
        go_ret
        rw [H.out]
        exact RetB.of rfl (HB1 _).out
      · have hx1 : (jO p k == 9) = false := by simpa using hx
        have HX := Lib.hid hx
        clear hx
        go_wp2
        go_roundw
        case rel => exact ⟨k + 1, by omega, by go_num, fun j hj => (by
          rcases Nat.lt_or_ge j k with h | h
          · exact HQ.out j h
          · obtain rfl : j = k := by omega
            exact HX.out), (HB1 _).out⟩
        case measure => simp [intOf]; omega
    · have H : Hid (runLen p = n) := Lib.hid (by rw [runLen_none (fun j hj => HQ.out j (by rw [HN.out] at hj; omega)), HN.out])
      go_wp2
      go_ret
      rw [H.out]
      exact RetB.of rfl HB.out

/-- The relation of Units' loop. -/
def UnitRel (p : List I3) (n : Nat) (w : World) (u t : Value) (wr : World) : Prop := ∃ k : Nat, k ≤ n ∧ t = .int .i64 k ∧ u = .int .i64 (unitsK p k) ∧ Below w.heap.size w wr

open Classical in
/-- What Units answers: a number, an error. -/
noncomputable def unitsA (p : List I3) : Int × Int := if okP p then (units p, 0) else (0, 1)
theorem unitsA_ok {p : List I3} (h : okP p) : unitsA p = (units p, 0) := if_pos h
theorem unitsA_no {p : List I3} (h : ¬ okP p) : unitsA p = (0, 1) := if_neg h

/-- A number and an error are handed back, and new memory. -/
def Ret2 (r : Int × Int) (w : World) (e : Ending) (w' : World) : Prop := e = .returned (.tuple #[.int .i64 r.1, .int .i64 r.2]) ∧ Below w.heap.size w w'
theorem Ret2.of {r : Int × Int} {x y : Int} {w w' : World} {e : Ending} (hr : r = (x, y)) (he : e = .returned (.tuple #[.int .i64 x, .int .i64 y])) (hb : Below w.heap.size w w') : Ret2 r w e w' := by subst hr; exact ⟨he, hb⟩

theorem units_room {p : List I3} (h : okP p) {k : Nat} (hk : k ≤ runLen p) : 0 ≤ unitsK p k ∧ unitsK p k ≤ 3200 := by
  have h1 := runLen_le p
  have := unitsK_bound h (k := k) (by omega)
  have := h.2.1
  omega

theorem unit_step {p : List I3} {k : Nat} (h : jO p k = 1) : unitsK p k + jA p k = unitsK p (k + 1) := by rw [unitsK, if_pos h]
theorem unit_other {p : List I3} {k : Nat} (h : jO p k ≠ 1) : unitsK p k + 1 = unitsK p (k + 1) := by rw [unitsK, if_neg h]

set_option maxHeartbeats 1000000 in
theorem units_no (A : Option Addr) (n c : Nat) (p : List I3) (w : World) (hp : Prog w A n c p) (h : ¬ okP p) :
    Calls Tryd.prog 19 #[.slice A n c] w (Ret2 (unitsA p) w) := by
  have HE := Lib.hid (errP_no h)
  have HU := Lib.hid (unitsA_no h)
  clear h
  go_enter Tryd.func19, Tryd.ntmps19
  go_wp2_with fail
  refine (check_any A n c p w hp).mono ?_
  rintro e w1 ⟨rfl, hb1⟩
  rw [HE.out]
  have HB := Lib.hid hb1
  clear hb1
  go_wp2
  go_ret2
  exact Ret2.of HU.out rfl HB.out

set_option maxHeartbeats 1000000 in
theorem units_ok (A : Option Addr) (n c : Nat) (p : List I3) (w : World) (hp : Prog w A n c p) (h : okP p) :
    Calls Tryd.prog 19 #[.slice A n c] w (Ret2 (unitsA p) w) := by
  have HE := Lib.hid (errP_ok h)
  have HU := Lib.hid (unitsA_ok h)
  have HO := Lib.hid h
  have HP := Lib.hid hp
  have HN := Lib.hid hp.1
  have hrl : runLen p ≤ n := by have := runLen_le p; rw [HN.out] at this; exact this
  have hn := Nat.le_trans hp.2.1.1 hp.2.1.2
  clear h hp
  go_enter Tryd.func19, Tryd.ntmps19
  go_wp2_with fail
  refine (check_any A n c p w HP.out).mono ?_
  rintro e w1 ⟨rfl, hb1⟩
  rw [HE.out]
  have HB1 := Lib.hid hb1
  clear hb1
  go_wp2_with fail
  refine (toExit_any A n c p _ (HP.out.below HB1.out)).mono ?_
  rintro e w2 ⟨rfl, hb2⟩
  have HB2 := Lib.hid (below3 HB1.out hb2)
  clear hb2
  generalize hm : runLen p = m at hrl ⊢
  have HM := Lib.hid hm
  clear hm
  go_wp2
  go_loopw [5, 16] (fun u t wr => UnitRel p m w u t wr) (fun _ t _ => m - (intOf t).toNat)
  case atStart => exact ⟨0, Nat.zero_le _, rfl, rfl, HB2.out⟩
  case round =>
    obtain ⟨k, hk, rfl, rfl, hb⟩ := hrel
    have HB := Lib.hid hb
    clear hb
    have hu := units_room HO.out (k := k) (by rw [HM.out]; exact hk)
    by_cases hlt : k < m
    · have hu1 := units_room HO.out (k := k + 1) (by rw [HM.out]; omega)
      obtain ⟨b, o, rfl, hbl, g0, g1, g2⟩ := (HP.out.below HB.out).at_ (j := k) (by omega)
      have HB1 := fun X => Lib.hid (HB.out.alloc HB.out.size X)
      by_cases hx : jO p k = 1
      · have hx1 : (jO p k == 1) = true := by simpa using hx
        have HS := Lib.hid (unit_step hx)
        have hq : 0 ≤ unitsK p k + jA p k ∧ unitsK p k + jA p k ≤ 3200 := by rw [HS.out]; exact hu1
        clear hx hu1
        go_wp2
        go_roundw
        case rel => exact ⟨k + 1, by omega, by go_num, by rw [HS.out], (HB1 _).out⟩
        case measure => simp [intOf]; omega
      · have hx1 : (jO p k == 1) = false := by simpa using hx
        have HS := Lib.hid (unit_other hx)
        clear hx hu1
        go_wp2
        go_roundw
        case rel => exact ⟨k + 1, by omega, by go_num, by rw [HS.out], (HB1 _).out⟩
        case measure => simp [intOf]; omega
    · obtain rfl : k = m := by omega
      go_wp2
      go_ret2
      exact Ret2.of HU.out (by unfold units; rw [HM.out]; rfl) HB.out

theorem units_any (A : Option Addr) (n c : Nat) (p : List I3) (w : World) (hp : Prog w A n c p) :
    Calls Tryd.prog 19 #[.slice A n c] w (Ret2 (unitsA p) w) := by
  by_cases h : okP p
  · exact units_ok A n c p w hp h
  · exact units_no A n c p w hp h

end Go.Proofs.YtlbmlhcphoiaeaaDoor

/-
  The walk of the law CodeChecks of layer 4.
-/
import Derived.Test.YtcbgmhbmdklbfaaLive
import Derived.Test.YtcbgmhbmdklbfaaTable
import Derived.Test.YtcbgmhbmdklbfaaSameL
namespace Go.Proofs.Ytcbgmhbmdklbfaa
open Go.RowKit

/-- The relation of the loop. -/
def LKRel (n : Nat) (w : World) (t : Value) (wr : World) : Prop := ∃ k : Nat, k ≤ n ∧ t = .int .i64 k ∧ Below w.heap.size w wr

set_option maxRecDepth 100000 in
set_option maxHeartbeats 2000000 in
theorem lchecks_many (A B : Option Addr) (n c m d : Nat) (l o : List (List I3)) (i : Int) (w : World) (hp : Prgs w A n l) (hq : Prgs w B m o) (h : fewB l = false ∨ fewB o = false) :
    Calls Try.prog 3 #[.slice A n c, .slice B m d, .int .i64 i] w (TrueAns w) := by
  have HP := Lib.hid hp
  have HQ := Lib.hid hq
  have HF := Lib.hid h
  clear hp hq h
  go_enter Try.func3, Try.ntmps3
  go_wp2_with fail
  refine (live_any _).mono ?_
  rintro e w1 ⟨rfl, hb1⟩
  have HB1 := Lib.hid hb1
  clear hb1
  go_wp2_with fail
  refine (few_any A n c l _ (HP.out.below HB1.out)).mono ?_
  rintro e w2 ⟨rfl, rfl⟩
  by_cases hf : fewB l = true
  · have ho : fewB o = false := HF.out.resolve_left (by rw [hf]; simp)
    have HO := Lib.hid ho
    rw [hf]
    clear hf ho
    go_wp2_with fail
    refine (few_any B m d o _ (HQ.out.below HB1.out)).mono ?_
    rintro e w2 ⟨rfl, rfl⟩
    rw [HO.out]
    go_wp2
    go_ret
    exact ⟨rfl, HB1.out⟩
  · rw [bool_no hf]
    clear hf
    go_wp2
    go_ret
    exact ⟨rfl, HB1.out⟩

set_option maxRecDepth 100000 in
set_option maxHeartbeats 4000000 in
theorem lchecks_few (A B : Option Addr) (n c m d : Nat) (l o : List (List I3)) (i : Int) (w : World) (hp : Prgs w A n l) (hq : Prgs w B m o) (hf : fewB l = true) (ho : fewB o = true) :
    Calls Try.prog 3 #[.slice A n c, .slice B m d, .int .i64 i] w (TrueAns w) := by
  have HP := Lib.hid hp
  have HQ := Lib.hid hq
  have HF := Lib.hid hf
  have HO := Lib.hid ho
  have hn : n ≤ 100 := by have := (of_decide_eq_true (show decide _ = true from hf)).1; rw [hp.1] at this; exact this
  clear hp hq hf ho
  go_enter Try.func3, Try.ntmps3
  go_wp2_with fail
  refine (live_any _).mono ?_
  rintro e w1 ⟨rfl, hb1⟩
  have HB1 := Lib.hid hb1
  clear hb1
  go_wp2_with fail
  refine (few_any A n c l _ (HP.out.below HB1.out)).mono ?_
  rintro e w2 ⟨rfl, rfl⟩
  rw [HF.out]
  go_wp2_with fail
  refine (few_any B m d o _ (HQ.out.below HB1.out)).mono ?_
  rintro e w2 ⟨rfl, rfl⟩
  rw [HO.out]
  go_wp2
  go_loopw [30] (fun t wr => LKRel n w t wr) (fun t _ => n - (intOf t).toNat)
  case atStart => exact ⟨0, Nat.zero_le _, rfl, HB1.out⟩
  case round =>
    obtain ⟨k, hk, rfl, hb⟩ := hrel
    have HB := Lib.hid hb
    clear hb
    by_cases hlt : k < n
    · obtain ⟨b, o', D, r, s, rfl, hbl, g0, hr⟩ := (HP.out.below HB.out).at_ hlt
      have HR := Lib.hid hr
      clear hr
      obtain ⟨ux, ue, hu⟩ : ∃ ux ue : Int, unitsA (pth l k) = (ux, ue) := ⟨_, _, rfl⟩
      have HU := Lib.hid hu
      obtain ⟨ep, he⟩ : ∃ ep : Int, errP (pth l k) = ep := ⟨_, rfl⟩
      have HE := Lib.hid he
      clear hu he
      go_wp2_with fail
      refine (units_any D r s _ _ HR.out).mono ?_
      rintro e w2 ⟨he, hb2⟩
      rw [HU.out] at he
      subst he
      have HB2 := Lib.hid (below3 HB.out hb2)
      have HR2 := Lib.hid (HR.out.below hb2)
      clear hb2
      go_wp2_with fail
      refine (runits_any D r s _ _ HR2.out).mono ?_
      rintro e w3 ⟨he, hb3⟩
      rw [HU.out] at he
      subst he
      have HB3 := Lib.hid (below3 HB2.out hb3)
      have HR3 := Lib.hid (HR2.out.below hb3)
      clear hb3
      go_wp2_with fail
      refine (check_any D r s _ _ HR3.out).mono ?_
      rintro e w4 ⟨rfl, hb4⟩
      rw [HE.out]
      have HB4 := Lib.hid (below3 HB3.out hb4)
      have HR4 := Lib.hid (HR3.out.below hb4)
      clear hb4
      go_wp2_with fail
      refine (rcheck_any D r s _ _ HR4.out).mono ?_
      rintro e w5 ⟨rfl, hb5⟩
      rw [HE.out]
      have HB5 := Lib.hid (below3 HB4.out hb5)
      clear hb5
      go_wp2
      go_roundw
      case rel => exact ⟨k + 1, by omega, by go_num, HB5.out⟩
      case measure => simp [intOf]; omega
    · obtain ⟨tx, te, ht⟩ : ∃ tx te : Int, tasksA l i = (tx, te) := ⟨_, _, rfl⟩
      have HT := Lib.hid ht
      obtain ⟨el, he⟩ : ∃ el : Int, errL l = el := ⟨_, rfl⟩
      have HE := Lib.hid he
      obtain ⟨sb, hs⟩ : ∃ sb : Bool, sameL l o = sb := ⟨_, rfl⟩
      have HS := Lib.hid hs
      clear ht he hs
      go_wp2_with fail
      refine (tasks_any A n c l i _ (HP.out.below HB.out)).mono ?_
      rintro e w2 ⟨he, hb2⟩
      rw [HT.out] at he
      subst he
      have HB2 := Lib.hid (below3 HB.out hb2)
      clear hb2
      go_wp2_with fail
      refine (rtasks_any A n c l i _ (HP.out.below HB2.out)).mono ?_
      rintro e w3 ⟨he, hb3⟩
      rw [HT.out] at he
      subst he
      have HB3 := Lib.hid (below3 HB2.out hb3)
      clear hb3
      go_wp2_with fail
      refine (checkAll_any A n c l _ (HP.out.below HB3.out)).mono ?_
      rintro e w4 ⟨rfl, hb4⟩
      rw [HE.out]
      have HB4 := Lib.hid (below3 HB3.out hb4)
      clear hb4
      go_wp2_with fail
      refine (rcheckAll_any A n c l _ (HP.out.below HB4.out)).mono ?_
      rintro e w5 ⟨rfl, hb5⟩
      rw [HE.out]
      have HB5 := Lib.hid (below3 HB4.out hb5)
      clear hb5
      go_wp2_with fail
      refine (same_any A B n c m d l o _ (HP.out.below HB5.out) (HQ.out.below HB5.out)).mono ?_
      rintro e w6 ⟨rfl, hb6⟩
      rw [HS.out]
      have HB6 := Lib.hid (below3 HB5.out hb6)
      clear hb6
      go_wp2_with fail
      refine (rsame_any A B n c m d l o _ (HP.out.below HB6.out) (HQ.out.below HB6.out)).mono ?_
      rintro e w7 ⟨rfl, hb7⟩
      rw [HS.out]
      have HB7 := Lib.hid (below3 HB6.out hb7)
      clear hb7
      go_wp2
      go_ret
      exact ⟨rfl, HB7.out⟩

theorem lchecks_any (A B : Option Addr) (n c m d : Nat) (l o : List (List I3)) (i : Int) (w : World) (hp : Prgs w A n l) (hq : Prgs w B m o) :
    Calls Try.prog 3 #[.slice A n c, .slice B m d, .int .i64 i] w (TrueAns w) := by
  by_cases h : fewB l = false ∨ fewB o = false
  · exact lchecks_many A B n c m d l o i w hp hq h
  · have hf : fewB l = true := by cases hx : fewB l with
      | true => rfl
      | false => exact absurd (.inl hx) h
    have ho : fewB o = true := by cases hx : fewB o with
      | true => rfl
      | false => exact absurd (.inr hx) h
    exact lchecks_few A B n c m d l o i w hp hq hf ho

end Go.Proofs.Ytcbgmhbmdklbfaa

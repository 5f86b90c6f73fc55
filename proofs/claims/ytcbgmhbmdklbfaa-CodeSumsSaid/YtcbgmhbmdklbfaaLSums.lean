/-
  The walk of the law CodeSums of layer 4.
-/
import Derived.Test.YtcbgmhbmdklbfaaLUnits
namespace Go.Proofs.Ytcbgmhbmdklbfaa
open Go.RowKit

/-- What the law adds up over the first k instructions: the sum, and the error that it wants. -/
noncomputable def wS (l : List (List I3)) (p : List I3) : Nat → Int × Int
  | 0 => (1, 0)
  | k + 1 => if jO p k = 2 then ((wS l p k).1 + (tasksA l (jA p k)).1, if (tasksA l (jA p k)).2 = 9 ∨ ((tasksA l (jA p k)).2 = 4 ∧ (wS l p k).2 = 0) then (tasksA l (jA p k)).2 else (wS l p k).2) else wS l p k

section
variable {l : List (List I3)} {p : List I3} {k : Nat} {sm wt : Int}
theorem wS_other (h : wS l p k = (sm, wt)) (ho : jO p k ≠ 2) : wS l p (k + 1) = (sm, wt) := by rw [wS, if_neg ho, h]
theorem wS_spawn {m f : Int} (h : wS l p k = (sm, wt)) (ho : jO p k = 2) (ht : tasksA l (jA p k) = (m, f)) : wS l p (k + 1) = (sm + m, if f = 9 ∨ (f = 4 ∧ wt = 0) then f else wt) := by rw [wS, if_pos ho, h, ht]

/-- The three answers where the programs may be, and there is that one. -/
theorem tasks3 (hok : okL l) {a : Nat} (ha : a < l.length) :
    (tot l a = none ∧ tasksA l a = (0, 9)) ∨ (∃ c, tot l a = some c ∧ 1099511627776 < c ∧ tasksA l a = (0, 4)) ∨ ∃ c, tot l a = some c ∧ c ≤ 1099511627776 ∧ 1 ≤ c ∧ tasksA l a = ((c : Int), 0) := by
  cases ht : tot l a with
  | none => exact .inl ⟨rfl, tasksA_none hok ha ht⟩
  | some c =>
    rcases Nat.lt_or_ge 1099511627776 c with h | h
    · exact .inr (.inl ⟨c, rfl, h, tasksA_large hok ha ht h⟩)
    · exact .inr (.inr ⟨c, rfl, h, cnt_pos ht, tasksA_ok hok ha ht h⟩)

/-- Where what program i comes to is known, the law's sum is it, as long as no part goes over. -/
theorem wS_known (hok : okL l) {i c : Nat} (hi : i < l.length) (ht : tot l i = some c) : ∀ k, k ≤ runLen (pth l i) → ∃ s, s ≤ c ∧ (k = runLen (pth l i) → s = c) ∧
    ((wS l (pth l i) k = ((s : Int), 0)) ∨ (1099511627776 < s ∧ (wS l (pth l i) k).2 = 4)) := by
  obtain ⟨f, hf⟩ : ∃ f, l.length = f + 1 := ⟨l.length - 1, by omega⟩
  have hall : kidsK (cnt l f) (pth l i) (runLen (pth l i)) = some c := by
    unfold tot at ht
    rw [hf] at ht
    exact ht
  have hmono : ∀ d k s, kidsK (cnt l f) (pth l i) (k + d) = some s → ∃ s', kidsK (cnt l f) (pth l i) k = some s' ∧ s' ≤ s := by
    intro d
    induction d with
    | zero => intro k s h; exact ⟨s, h, Nat.le_refl _⟩
    | succ d ih =>
      intro k s h
      rw [← Nat.add_assoc, kidsK] at h
      split at h
      · cases h
      · rename_i s0 h0
        obtain ⟨s', h1, h2⟩ := ih k s0 h0
        refine ⟨s', h1, ?_⟩
        split at h
        · split at h
          · cases h
          · injection h with h; omega
        · injection h with h; omega
  have key : ∀ k, k ≤ runLen (pth l i) → ∃ s, kidsK (cnt l f) (pth l i) k = some s ∧ ((wS l (pth l i) k = ((s : Int), 0)) ∨ (1099511627776 < s ∧ (wS l (pth l i) k).2 = 4)) := by
    intro k
    induction k with
    | zero => intro _; exact ⟨1, rfl, .inl rfl⟩
    | succ k ih =>
      intro hk
      obtain ⟨s, hs, hw⟩ := ih (by omega)
      by_cases ho : jO (pth l i) k = 2
      · obtain ⟨m, hm, _⟩ := kids_each hall k (by omega) ho
        have ha : (jA (pth l i) k).toNat < l.length := okL_closed hok i hi k (by omega) ho
        have htot : tot l (jA (pth l i) k).toNat = some m := by
          unfold tot
          rw [hf]
          exact cnt_step hm
        have hja : 0 ≤ jA (pth l i) k := (may_bound ((hok.2.2 i hi).1.2.2 k (by have := runLen_le (pth l i); omega))).2.2.1
        refine ⟨s + m, kids_spawn hs ho hm, ?_⟩
        have hcast : (((jA (pth l i) k).toNat : Nat) : Int) = jA (pth l i) k := by omega
        rcases Nat.lt_or_ge 1099511627776 m with h | h
        · have ht2 := tasksA_large hok ha htot h
          rw [hcast] at ht2
          right
          refine ⟨by omega, ?_⟩
          rcases hw with hw | ⟨_, hw⟩
          · rw [wS_spawn hw ho ht2]; simp
          · rw [wS_spawn (sm := (wS l (pth l i) k).1) (wt := 4) (by rw [← hw]) ho ht2]; simp
        · have ht2 := tasksA_ok hok ha htot h
          rw [hcast] at ht2
          rcases hw with hw | ⟨hw1, hw⟩
          · left
            rw [wS_spawn hw ho ht2]
            simp
          · right
            refine ⟨by omega, ?_⟩
            rw [wS_spawn (sm := (wS l (pth l i) k).1) (wt := 4) (by rw [← hw]) ho ht2]; simp
      · refine ⟨s, kids_other hs ho, ?_⟩
        rcases hw with hw | ⟨hw1, hw⟩
        · left; exact wS_other hw ho
        · right
          exact ⟨hw1, by rw [wS_other (sm := (wS l (pth l i) k).1) (wt := 4) (by rw [← hw]) ho]⟩
  intro k hk
  obtain ⟨s, hs, hw⟩ := key k hk
  obtain ⟨s', h1, h2⟩ := hmono (runLen (pth l i) - k) k c (by rw [Nat.add_sub_cancel' hk]; exact hall)
  rw [hs] at h1
  injection h1 with h1
  subst h1
  refine ⟨s, h2, fun e => ?_, hw⟩
  subst e
  rw [hall] at hs
  injection hs with hs
  exact hs.symm
end

/-- The relation of the loop: no exit so far. -/
def LSRel (l : List (List I3)) (p : List I3) (n : Nat) (w : World) (u v t : Value) (wr : World) : Prop := ∃ k : Nat, k ≤ n ∧ t = .int .i64 k ∧ (∀ j, j < k → jO p j ≠ 9) ∧ ∃ sm wt, wS l p k = (sm, wt) ∧ 1 ≤ sm ∧ sm ≤ 1 + 1099511627776 * k ∧ u = .int .i64 sm ∧ v = .int .i64 wt ∧ Below w.heap.size w wr

set_option maxRecDepth 100000 in
set_option maxHeartbeats 2000000 in
theorem lsums_many (A : Option Addr) (n c : Nat) (l : List (List I3)) (i : Int) (w : World) (hp : Prgs w A n l) (h : fewB l = false) :
    Calls Try.prog 6 #[.slice A n c, .int .i64 i] w (TrueAns w) := by
  have HP := Lib.hid hp
  have HF := Lib.hid h
  clear hp h
  go_enter Try.func6, Try.ntmps6
  go_wp2_with fail
  refine (live_any _).mono ?_
  rintro e w1 ⟨rfl, hb1⟩
  have HB1 := Lib.hid hb1
  clear hb1
  go_wp2_with fail
  refine (few_any A n c l _ (HP.out.below HB1.out)).mono ?_
  rintro e w2 ⟨rfl, rfl⟩
  rw [HF.out]
  go_wp2
  go_ret
  exact ⟨rfl, HB1.out⟩

set_option maxRecDepth 100000 in
set_option maxHeartbeats 2000000 in
theorem lsums_arg (A : Option Addr) (n c : Nat) (l : List (List I3)) (i : Int) (w : World) (hp : Prgs w A n l) (h : fewB l = true) (hno : ¬ okL l ∨ i < 0 ∨ (n : Int) ≤ i) :
    Calls Try.prog 6 #[.slice A n c, .int .i64 i] w (TrueAns w) := by
  have HP := Lib.hid hp
  have HF := Lib.hid h
  have HN := Lib.hid hp.1
  have hn := hp.2.1
  have HT : Hid (tasksA l i = (0, 1)) := Lib.hid (by
    rcases hno with h | h
    · exact tasksA_no h
    · exact tasksA_out (by rw [hp.1]; omega))
  have HNO := Lib.hid hno
  clear hp h hno
  go_enter Try.func6, Try.ntmps6
  go_wp2_with fail
  refine (live_any _).mono ?_
  rintro e w1 ⟨rfl, hb1⟩
  have HB1 := Lib.hid hb1
  clear hb1
  go_wp2_with fail
  refine (few_any A n c l _ (HP.out.below HB1.out)).mono ?_
  rintro e w2 ⟨rfl, rfl⟩
  rw [HF.out]
  go_wp2_with fail
  refine (tasks_any A n c l i _ (HP.out.below HB1.out)).mono ?_
  rintro e w2 ⟨he, hb2⟩
  rw [HT.out] at he
  subst he
  have HB2 := Lib.hid (below3 HB1.out hb2)
  clear hb2
  go_wp2_with fail
  refine (checkAll_any A n c l _ (HP.out.below HB2.out)).mono ?_
  rintro e w3 ⟨rfl, hb3⟩
  have HB3 := Lib.hid (below3 HB2.out hb3)
  clear hb3
  by_cases hok : okL l
  · rw [errL_ok hok]
    have hi : i < 0 ∨ (n : Int) ≤ i := HNO.out.resolve_left (fun h => h hok)
    clear hok
    by_cases hi0 : i < 0
    · go_wp2
      go_ret
      exact ⟨rfl, HB3.out⟩
    · have hi1 : (n : Int) ≤ i := by omega
      clear hi
      go_wp2
      go_ret
      exact ⟨rfl, HB3.out⟩
  · rw [errL_no hok]
    clear hok
    go_wp2
    go_ret
    exact ⟨rfl, HB3.out⟩

set_option maxRecDepth 100000 in
set_option maxHeartbeats 4000000 in
theorem lsums_none (A : Option Addr) (n c : Nat) (l : List (List I3)) (i : Nat) (w : World) (hp : Prgs w A n l) (h : fewB l = true) (hok : okL l) (hi : i < n) (ht : tot l i = none) :
    Calls Try.prog 6 #[.slice A n c, .int .i64 (i : Int)] w (TrueAns w) := by
  have HP := Lib.hid hp
  have HF := Lib.hid h
  have HN := Lib.hid hp.1
  have hn := hp.2.1
  have HOK := Lib.hid hok
  have HT := Lib.hid (tasksA_none hok (by rw [hp.1]; exact hi) ht)
  clear ht
  have hd0 : decide ((i : Int) < 0) = false := decide_eq_false (by omega)
  have hd1 : decide ((n : Int) ≤ (i : Int)) = false := decide_eq_false (by omega)
  have hd2 : decide (n ≤ i) = false := decide_eq_false (by omega)
  clear hp h hok
  go_enter Try.func6, Try.ntmps6
  go_wp2_with fail
  refine (live_any _).mono ?_
  rintro e w1 ⟨rfl, hb1⟩
  have HB1 := Lib.hid hb1
  clear hb1
  go_wp2_with fail
  refine (few_any A n c l _ (HP.out.below HB1.out)).mono ?_
  rintro e w2 ⟨rfl, rfl⟩
  rw [HF.out]
  go_wp2_with fail
  refine (tasks_any A n c l i _ (HP.out.below HB1.out)).mono ?_
  rintro e w2 ⟨he, hb2⟩
  rw [HT.out] at he
  subst he
  have HB2 := Lib.hid (below3 HB1.out hb2)
  clear hb2
  have HIL : Hid (i < l.length) := Lib.hid (by rw [HN.out]; exact hi)
  obtain ⟨b0, o0, B, m, d, rfl, hbl0, g00, hr⟩ := (HP.out.below HB2.out).at_ hi
  have HR := Lib.hid (show Prog _ _ _ _ _ from hr)
  have HML := Lib.hid hr.1
  have hm : m ≤ 32 := by have := (HOK.out.2.2 i HIL.out).1.2.1; rw [HML.out] at this; exact this
  clear hr
  go_wp2
  go_loopw [8, 9, 56] (fun u v t wr => LSRel l (pth l i) m w2 u v t wr) (fun _ _ t _ => m - (intOf t).toNat)
  case atStart => exact ⟨0, Nat.zero_le _, rfl, fun j hj => absurd hj (by omega), 1, 0, rfl, by omega, by omega, rfl, rfl, Below.refl _ _⟩
  case round =>
    obtain ⟨k, hk, rfl, hnx, sm, wt, hws, hs1, hs2, rfl, rfl, hb⟩ := hrel
    have HB := Lib.hid hb
    have HBW := Lib.hid (below3 HB2.out hb)
    have HNX := Lib.hid hnx
    have HWS := Lib.hid hws
    clear hb hnx hws
    by_cases hlt : k < m
    · obtain ⟨b, o, rfl, hbl, g0, g1, g2⟩ := (HR.out.below HB.out).at_ hlt
      have HBX := fun X => Lib.hid (HB.out.alloc HB.out.size X)
      by_cases h9 : jO (pth l i) k = 9
      · have HRL : Hid (runLen (pth l i) = k + 1) := Lib.hid (runLen_exit (by rw [HML.out]; exact hlt) HNX.out h9)
        have HWE : Hid (wS l (pth l i) (runLen (pth l i)) = (sm, wt)) := Lib.hid (by rw [HRL.out]; exact wS_other HWS.out (by omega))
        have h91 : (jO (pth l i) k == 9) = true := by simpa using h9
        have HBE := fun X => Lib.hid (HBW.out.alloc HBW.out.size X)
        clear h9
        go_wp2
        all_goals
          go_ret
          exact ⟨rfl, (HBE _).out⟩
      · have h91 : (jO (pth l i) k == 9) = false := by simpa using h9
        have HNX2 : Hid (∀ j, j < k + 1 → jO (pth l i) j ≠ 9) := Lib.hid (fun j hj => by
          rcases Nat.lt_or_ge j k with h | h
          · exact HNX.out j h
          · obtain rfl : j = k := by omega
            exact h9)
        clear h9
        by_cases h2 : jO (pth l i) k = 2
        · have hrl : k < runLen (pth l i) := by
            rcases Nat.lt_or_ge k (runLen (pth l i)) with h | h
            · exact h
            · exfalso
              by_cases hx : hasExit (pth l i)
              · obtain ⟨e1, e2⟩ := runLen_last hx
                exact HNX.out (runLen (pth l i) - 1) (by omega) e2
              · have := runLen_none (not_exit hx)
                rw [HML.out] at this
                omega
          have ha := okL_closed HOK.out i HIL.out k hrl h2
          have hja := (may_bound (((HOK.out.2.2 i HIL.out).1).2.2 k (by rw [HML.out]; exact hlt))).2.2.1
          obtain ⟨a, ea⟩ : ∃ a : Nat, jA (pth l i) k = (a : Int) := ⟨(jA (pth l i) k).toNat, by unfold jA; omega⟩
          rw [ea] at ha g1
          have H2 := Lib.hid h2
          have HA := Lib.hid ea
          have hal : a < l.length := ha
          have h21 : (jO (pth l i) k != 2) = false := by simpa using h2
          clear h2 hja ea ha hrl
          go_wp2_with fail
          refine (tasks_any _ n c l a _ (HP.out.below (HBW.out.alloc HBW.out.size _))).mono ?_
          rintro e w3 ⟨he, hb3⟩
          have HB3 := Lib.hid (below3 (HB.out.alloc HB.out.size _) hb3)
          clear hb3
          rcases tasks3 HOK.out hal with ⟨_, ht⟩ | ⟨c', _, _, ht⟩ | ⟨c', _, hc', hc1, ht⟩
          · rw [ht] at he
            subst he
            have HWN := Lib.hid (wS_spawn (m := 0) (f := 9) HWS.out H2.out (by rw [HA.out]; exact ht))
            clear ht
            go_wp2
            all_goals
              go_roundw
              case rel => exact ⟨k + 1, by omega, by go_num, HNX2.out, _, _, HWN.out, by omega, by omega, by simp, by simp, HB3.out⟩
              case measure => simp [intOf]; omega
          · rw [ht] at he
            subst he
            have HWN := Lib.hid (wS_spawn (m := 0) (f := 4) HWS.out H2.out (by rw [HA.out]; exact ht))
            clear ht
            by_cases hw : wt = 0
            · have hw1 : (wt == 0) = true := by simpa using hw
              have HW := Lib.hid hw
              clear hw
              go_wp2
              all_goals
                go_roundw
                case rel => exact ⟨k + 1, by omega, by go_num, HNX2.out, _, _, HWN.out, by omega, by omega, by simp, by simp [HW.out], HB3.out⟩
                case measure => simp [intOf]; omega
            · have hw1 : (wt == 0) = false := by simpa using hw
              have HW := Lib.hid hw
              clear hw
              go_wp2
              all_goals
                go_roundw
                case rel => exact ⟨k + 1, by omega, by go_num, HNX2.out, _, _, HWN.out, by omega, by omega, by simp, by simp [HW.out], HB3.out⟩
                case measure => simp [intOf]; omega
          · rw [ht] at he
            subst he
            have HWN := Lib.hid (wS_spawn (m := (c' : Int)) (f := 0) HWS.out H2.out (by rw [HA.out]; exact ht))
            clear ht
            have hcb : (c' : Int) ≤ 1099511627776 := by omega
            go_wp2
            all_goals
              go_roundw
              case rel => exact ⟨k + 1, by omega, by go_num, HNX2.out, _, _, HWN.out, by omega, by omega, by simp, by simp, HB3.out⟩
              case measure => simp [intOf]; omega
        · have h21 : (jO (pth l i) k != 2) = true := by simpa using h2
          have HWN := Lib.hid (wS_other HWS.out h2)
          clear h2
          go_wp2
          go_roundw
          case rel => exact ⟨k + 1, by omega, by go_num, HNX2.out, _, _, HWN.out, by omega, by omega, rfl, rfl, (HBX _).out⟩
          case measure => simp [intOf]; omega
    · obtain rfl : k = m := by omega
      have HRL : Hid (runLen (pth l i) = k) := Lib.hid (by rw [runLen_none (fun j hj => HNX.out j (by rw [HML.out] at hj; exact hj)), HML.out])
      have HWE : Hid (wS l (pth l i) (runLen (pth l i)) = (sm, wt)) := Lib.hid (by rw [HRL.out]; exact HWS.out)
      go_wp2
      all_goals
        go_ret
        exact ⟨rfl, HBW.out⟩

set_option maxRecDepth 100000 in
set_option maxHeartbeats 4000000 in
theorem lsums_large (A : Option Addr) (n c : Nat) (l : List (List I3)) (i q : Nat) (w : World) (hp : Prgs w A n l) (h : fewB l = true) (hok : okL l) (hi : i < n) (ht : tot l i = some q) (hq : 1099511627776 < q) :
    Calls Try.prog 6 #[.slice A n c, .int .i64 (i : Int)] w (TrueAns w) := by
  have HP := Lib.hid hp
  have HF := Lib.hid h
  have HN := Lib.hid hp.1
  have hn := hp.2.1
  have HOK := Lib.hid hok
  have HT := Lib.hid (tasksA_large hok (by rw [hp.1]; exact hi) ht hq)
  have HWK : Hid (∀ sm wt, wS l (pth l i) (runLen (pth l i)) = (sm, wt) → wt = 4 ∨ (wt = 0 ∧ 1099511627776 < sm)) := Lib.hid (fun sm wt hw => by
    obtain ⟨s, _, h2, h3⟩ := wS_known hok (by rw [hp.1]; exact hi) ht _ (Nat.le_refl _)
    have h2 := h2 rfl
    subst h2
    rcases h3 with h3 | ⟨_, h3⟩
    · rw [h3] at hw
      injection hw with e1 e2
      right
      omega
    · rw [hw] at h3
      exact .inl h3)
  clear ht hq
  have hd0 : decide ((i : Int) < 0) = false := decide_eq_false (by omega)
  have hd1 : decide ((n : Int) ≤ (i : Int)) = false := decide_eq_false (by omega)
  have hd2 : decide (n ≤ i) = false := decide_eq_false (by omega)
  clear hp h hok
  go_enter Try.func6, Try.ntmps6
  go_wp2_with fail
  refine (live_any _).mono ?_
  rintro e w1 ⟨rfl, hb1⟩
  have HB1 := Lib.hid hb1
  clear hb1
  go_wp2_with fail
  refine (few_any A n c l _ (HP.out.below HB1.out)).mono ?_
  rintro e w2 ⟨rfl, rfl⟩
  rw [HF.out]
  go_wp2_with fail
  refine (tasks_any A n c l i _ (HP.out.below HB1.out)).mono ?_
  rintro e w2 ⟨he, hb2⟩
  rw [HT.out] at he
  subst he
  have HB2 := Lib.hid (below3 HB1.out hb2)
  clear hb2
  have HIL : Hid (i < l.length) := Lib.hid (by rw [HN.out]; exact hi)
  obtain ⟨b0, o0, B, m, d, rfl, hbl0, g00, hr⟩ := (HP.out.below HB2.out).at_ hi
  have HR := Lib.hid (show Prog _ _ _ _ _ from hr)
  have HML := Lib.hid hr.1
  have hm : m ≤ 32 := by have := (HOK.out.2.2 i HIL.out).1.2.1; rw [HML.out] at this; exact this
  clear hr
  go_wp2
  go_loopw [8, 9, 56] (fun u v t wr => LSRel l (pth l i) m w2 u v t wr) (fun _ _ t _ => m - (intOf t).toNat)
  case atStart => exact ⟨0, Nat.zero_le _, rfl, fun j hj => absurd hj (by omega), 1, 0, rfl, by omega, by omega, rfl, rfl, Below.refl _ _⟩
  case round =>
    obtain ⟨k, hk, rfl, hnx, sm, wt, hws, hs1, hs2, rfl, rfl, hb⟩ := hrel
    have HB := Lib.hid hb
    have HBW := Lib.hid (below3 HB2.out hb)
    have HNX := Lib.hid hnx
    have HWS := Lib.hid hws
    clear hb hnx hws
    by_cases hlt : k < m
    · obtain ⟨b, o, rfl, hbl, g0, g1, g2⟩ := (HR.out.below HB.out).at_ hlt
      have HBX := fun X => Lib.hid (HB.out.alloc HB.out.size X)
      by_cases h9 : jO (pth l i) k = 9
      · have HRL : Hid (runLen (pth l i) = k + 1) := Lib.hid (runLen_exit (by rw [HML.out]; exact hlt) HNX.out h9)
        have HWE : Hid (wS l (pth l i) (runLen (pth l i)) = (sm, wt)) := Lib.hid (by rw [HRL.out]; exact wS_other HWS.out (by omega))
        have h91 : (jO (pth l i) k == 9) = true := by simpa using h9
        have HBE := fun X => Lib.hid (HBW.out.alloc HBW.out.size X)
        clear h9
        have HC := Lib.hid (HWK.out sm wt HWE.out)
        rcases HC.out with rfl | ⟨rfl, hbig⟩
        · go_wp2
          go_ret
          exact ⟨rfl, (HBE _).out⟩
        · go_wp2
          go_ret
          exact ⟨rfl, (HBE _).out⟩
      · have h91 : (jO (pth l i) k == 9) = false := by simpa using h9
        have HNX2 : Hid (∀ j, j < k + 1 → jO (pth l i) j ≠ 9) := Lib.hid (fun j hj => by
          rcases Nat.lt_or_ge j k with h | h
          · exact HNX.out j h
          · obtain rfl : j = k := by omega
            exact h9)
        clear h9
        by_cases h2 : jO (pth l i) k = 2
        · have hrl : k < runLen (pth l i) := by
            rcases Nat.lt_or_ge k (runLen (pth l i)) with h | h
            · exact h
            · exfalso
              by_cases hx : hasExit (pth l i)
              · obtain ⟨e1, e2⟩ := runLen_last hx
                exact HNX.out (runLen (pth l i) - 1) (by omega) e2
              · have := runLen_none (not_exit hx)
                rw [HML.out] at this
                omega
          have ha := okL_closed HOK.out i HIL.out k hrl h2
          have hja := (may_bound (((HOK.out.2.2 i HIL.out).1).2.2 k (by rw [HML.out]; exact hlt))).2.2.1
          obtain ⟨a, ea⟩ : ∃ a : Nat, jA (pth l i) k = (a : Int) := ⟨(jA (pth l i) k).toNat, by unfold jA; omega⟩
          rw [ea] at ha g1
          have H2 := Lib.hid h2
          have HA := Lib.hid ea
          have hal : a < l.length := ha
          have h21 : (jO (pth l i) k != 2) = false := by simpa using h2
          clear h2 hja ea ha hrl
          go_wp2_with fail
          refine (tasks_any _ n c l a _ (HP.out.below (HBW.out.alloc HBW.out.size _))).mono ?_
          rintro e w3 ⟨he, hb3⟩
          have HB3 := Lib.hid (below3 (HB.out.alloc HB.out.size _) hb3)
          clear hb3
          rcases tasks3 HOK.out hal with ⟨_, ht⟩ | ⟨c', _, _, ht⟩ | ⟨c', _, hc', hc1, ht⟩
          · rw [ht] at he
            subst he
            have HWN := Lib.hid (wS_spawn (m := 0) (f := 9) HWS.out H2.out (by rw [HA.out]; exact ht))
            clear ht
            go_wp2
            all_goals
              go_roundw
              case rel => exact ⟨k + 1, by omega, by go_num, HNX2.out, _, _, HWN.out, by omega, by omega, by simp, by simp, HB3.out⟩
              case measure => simp [intOf]; omega
          · rw [ht] at he
            subst he
            have HWN := Lib.hid (wS_spawn (m := 0) (f := 4) HWS.out H2.out (by rw [HA.out]; exact ht))
            clear ht
            by_cases hw : wt = 0
            · have hw1 : (wt == 0) = true := by simpa using hw
              have HW := Lib.hid hw
              clear hw
              go_wp2
              all_goals
                go_roundw
                case rel => exact ⟨k + 1, by omega, by go_num, HNX2.out, _, _, HWN.out, by omega, by omega, by simp, by simp [HW.out], HB3.out⟩
                case measure => simp [intOf]; omega
            · have hw1 : (wt == 0) = false := by simpa using hw
              have HW := Lib.hid hw
              clear hw
              go_wp2
              all_goals
                go_roundw
                case rel => exact ⟨k + 1, by omega, by go_num, HNX2.out, _, _, HWN.out, by omega, by omega, by simp, by simp [HW.out], HB3.out⟩
                case measure => simp [intOf]; omega
          · rw [ht] at he
            subst he
            have HWN := Lib.hid (wS_spawn (m := (c' : Int)) (f := 0) HWS.out H2.out (by rw [HA.out]; exact ht))
            clear ht
            have hcb : (c' : Int) ≤ 1099511627776 := by omega
            go_wp2
            all_goals
              go_roundw
              case rel => exact ⟨k + 1, by omega, by go_num, HNX2.out, _, _, HWN.out, by omega, by omega, by simp, by simp, HB3.out⟩
              case measure => simp [intOf]; omega
        · have h21 : (jO (pth l i) k != 2) = true := by simpa using h2
          have HWN := Lib.hid (wS_other HWS.out h2)
          clear h2
          go_wp2
          go_roundw
          case rel => exact ⟨k + 1, by omega, by go_num, HNX2.out, _, _, HWN.out, by omega, by omega, rfl, rfl, (HBX _).out⟩
          case measure => simp [intOf]; omega
    · obtain rfl : k = m := by omega
      have HRL : Hid (runLen (pth l i) = k) := Lib.hid (by rw [runLen_none (fun j hj => HNX.out j (by rw [HML.out] at hj; exact hj)), HML.out])
      have HWE : Hid (wS l (pth l i) (runLen (pth l i)) = (sm, wt)) := Lib.hid (by rw [HRL.out]; exact HWS.out)
      have HC := Lib.hid (HWK.out sm wt HWE.out)
      rcases HC.out with rfl | ⟨rfl, hbig⟩
      · go_wp2
        go_ret
        exact ⟨rfl, HBW.out⟩
      · go_wp2
        go_ret
        exact ⟨rfl, HBW.out⟩

set_option maxRecDepth 100000 in
set_option maxHeartbeats 4000000 in
theorem lsums_fine (A : Option Addr) (n c : Nat) (l : List (List I3)) (i q : Nat) (w : World) (hp : Prgs w A n l) (h : fewB l = true) (hok : okL l) (hi : i < n) (ht : tot l i = some q) (hq : q ≤ 1099511627776) :
    Calls Try.prog 6 #[.slice A n c, .int .i64 (i : Int)] w (TrueAns w) := by
  have HP := Lib.hid hp
  have HF := Lib.hid h
  have HN := Lib.hid hp.1
  have hn := hp.2.1
  have HOK := Lib.hid hok
  have HT := Lib.hid (tasksA_ok hok (by rw [hp.1]; exact hi) ht hq)
  have HWK : Hid (∀ sm wt, wS l (pth l i) (runLen (pth l i)) = (sm, wt) → wt = 0 ∧ sm = (q : Int)) := Lib.hid (fun sm wt hw => by
    obtain ⟨s, h1, h2, h3⟩ := wS_known hok (by rw [hp.1]; exact hi) ht _ (Nat.le_refl _)
    have h2 := h2 rfl
    subst h2
    rcases h3 with h3 | ⟨h4, h3⟩
    · rw [h3] at hw
      injection hw with e1 e2
      omega
    · omega)
  have hq1 : (q : Int) ≤ 1099511627776 := by omega
  have hq2 : 1 ≤ (q : Int) := by have := cnt_pos ht; omega
  clear ht hq
  have hd0 : decide ((i : Int) < 0) = false := decide_eq_false (by omega)
  have hd1 : decide ((n : Int) ≤ (i : Int)) = false := decide_eq_false (by omega)
  have hd2 : decide (n ≤ i) = false := decide_eq_false (by omega)
  clear hp h hok
  go_enter Try.func6, Try.ntmps6
  go_wp2_with fail
  refine (live_any _).mono ?_
  rintro e w1 ⟨rfl, hb1⟩
  have HB1 := Lib.hid hb1
  clear hb1
  go_wp2_with fail
  refine (few_any A n c l _ (HP.out.below HB1.out)).mono ?_
  rintro e w2 ⟨rfl, rfl⟩
  rw [HF.out]
  go_wp2_with fail
  refine (tasks_any A n c l i _ (HP.out.below HB1.out)).mono ?_
  rintro e w2 ⟨he, hb2⟩
  rw [HT.out] at he
  subst he
  have HB2 := Lib.hid (below3 HB1.out hb2)
  clear hb2
  have HIL : Hid (i < l.length) := Lib.hid (by rw [HN.out]; exact hi)
  obtain ⟨b0, o0, B, m, d, rfl, hbl0, g00, hr⟩ := (HP.out.below HB2.out).at_ hi
  have HR := Lib.hid (show Prog _ _ _ _ _ from hr)
  have HML := Lib.hid hr.1
  have hm : m ≤ 32 := by have := (HOK.out.2.2 i HIL.out).1.2.1; rw [HML.out] at this; exact this
  clear hr
  go_wp2
  go_loopw [8, 9, 56] (fun u v t wr => LSRel l (pth l i) m w2 u v t wr) (fun _ _ t _ => m - (intOf t).toNat)
  case atStart => exact ⟨0, Nat.zero_le _, rfl, fun j hj => absurd hj (by omega), 1, 0, rfl, by omega, by omega, rfl, rfl, Below.refl _ _⟩
  case round =>
    obtain ⟨k, hk, rfl, hnx, sm, wt, hws, hs1, hs2, rfl, rfl, hb⟩ := hrel
    have HB := Lib.hid hb
    have HBW := Lib.hid (below3 HB2.out hb)
    have HNX := Lib.hid hnx
    have HWS := Lib.hid hws
    clear hb hnx hws
    by_cases hlt : k < m
    · obtain ⟨b, o, rfl, hbl, g0, g1, g2⟩ := (HR.out.below HB.out).at_ hlt
      have HBX := fun X => Lib.hid (HB.out.alloc HB.out.size X)
      by_cases h9 : jO (pth l i) k = 9
      · have HRL : Hid (runLen (pth l i) = k + 1) := Lib.hid (runLen_exit (by rw [HML.out]; exact hlt) HNX.out h9)
        have HWE : Hid (wS l (pth l i) (runLen (pth l i)) = (sm, wt)) := Lib.hid (by rw [HRL.out]; exact wS_other HWS.out (by omega))
        have h91 : (jO (pth l i) k == 9) = true := by simpa using h9
        have HBE := fun X => Lib.hid (HBW.out.alloc HBW.out.size X)
        clear h9
        obtain ⟨rfl, rfl⟩ := HWK.out sm wt HWE.out
        go_wp2
        go_ret
        exact ⟨rfl, (HBE _).out⟩
      · have h91 : (jO (pth l i) k == 9) = false := by simpa using h9
        have HNX2 : Hid (∀ j, j < k + 1 → jO (pth l i) j ≠ 9) := Lib.hid (fun j hj => by
          rcases Nat.lt_or_ge j k with h | h
          · exact HNX.out j h
          · obtain rfl : j = k := by omega
            exact h9)
        clear h9
        by_cases h2 : jO (pth l i) k = 2
        · have hrl : k < runLen (pth l i) := by
            rcases Nat.lt_or_ge k (runLen (pth l i)) with h | h
            · exact h
            · exfalso
              by_cases hx : hasExit (pth l i)
              · obtain ⟨e1, e2⟩ := runLen_last hx
                exact HNX.out (runLen (pth l i) - 1) (by omega) e2
              · have := runLen_none (not_exit hx)
                rw [HML.out] at this
                omega
          have ha := okL_closed HOK.out i HIL.out k hrl h2
          have hja := (may_bound (((HOK.out.2.2 i HIL.out).1).2.2 k (by rw [HML.out]; exact hlt))).2.2.1
          obtain ⟨a, ea⟩ : ∃ a : Nat, jA (pth l i) k = (a : Int) := ⟨(jA (pth l i) k).toNat, by unfold jA; omega⟩
          rw [ea] at ha g1
          have H2 := Lib.hid h2
          have HA := Lib.hid ea
          have hal : a < l.length := ha
          have h21 : (jO (pth l i) k != 2) = false := by simpa using h2
          clear h2 hja ea ha hrl
          go_wp2_with fail
          refine (tasks_any _ n c l a _ (HP.out.below (HBW.out.alloc HBW.out.size _))).mono ?_
          rintro e w3 ⟨he, hb3⟩
          have HB3 := Lib.hid (below3 (HB.out.alloc HB.out.size _) hb3)
          clear hb3
          rcases tasks3 HOK.out hal with ⟨_, ht⟩ | ⟨c', _, _, ht⟩ | ⟨c', _, hc', hc1, ht⟩
          · rw [ht] at he
            subst he
            have HWN := Lib.hid (wS_spawn (m := 0) (f := 9) HWS.out H2.out (by rw [HA.out]; exact ht))
            clear ht
            go_wp2
            all_goals
              go_roundw
              case rel => exact ⟨k + 1, by omega, by go_num, HNX2.out, _, _, HWN.out, by omega, by omega, by simp, by simp, HB3.out⟩
              case measure => simp [intOf]; omega
          · rw [ht] at he
            subst he
            have HWN := Lib.hid (wS_spawn (m := 0) (f := 4) HWS.out H2.out (by rw [HA.out]; exact ht))
            clear ht
            by_cases hw : wt = 0
            · have hw1 : (wt == 0) = true := by simpa using hw
              have HW := Lib.hid hw
              clear hw
              go_wp2
              all_goals
                go_roundw
                case rel => exact ⟨k + 1, by omega, by go_num, HNX2.out, _, _, HWN.out, by omega, by omega, by simp, by simp [HW.out], HB3.out⟩
                case measure => simp [intOf]; omega
            · have hw1 : (wt == 0) = false := by simpa using hw
              have HW := Lib.hid hw
              clear hw
              go_wp2
              all_goals
                go_roundw
                case rel => exact ⟨k + 1, by omega, by go_num, HNX2.out, _, _, HWN.out, by omega, by omega, by simp, by simp [HW.out], HB3.out⟩
                case measure => simp [intOf]; omega
          · rw [ht] at he
            subst he
            have HWN := Lib.hid (wS_spawn (m := (c' : Int)) (f := 0) HWS.out H2.out (by rw [HA.out]; exact ht))
            clear ht
            have hcb : (c' : Int) ≤ 1099511627776 := by omega
            go_wp2
            all_goals
              go_roundw
              case rel => exact ⟨k + 1, by omega, by go_num, HNX2.out, _, _, HWN.out, by omega, by omega, by simp, by simp, HB3.out⟩
              case measure => simp [intOf]; omega
        · have h21 : (jO (pth l i) k != 2) = true := by simpa using h2
          have HWN := Lib.hid (wS_other HWS.out h2)
          clear h2
          go_wp2
          go_roundw
          case rel => exact ⟨k + 1, by omega, by go_num, HNX2.out, _, _, HWN.out, by omega, by omega, rfl, rfl, (HBX _).out⟩
          case measure => simp [intOf]; omega
    · obtain rfl : k = m := by omega
      have HRL : Hid (runLen (pth l i) = k) := Lib.hid (by rw [runLen_none (fun j hj => HNX.out j (by rw [HML.out] at hj; exact hj)), HML.out])
      have HWE : Hid (wS l (pth l i) (runLen (pth l i)) = (sm, wt)) := Lib.hid (by rw [HRL.out]; exact HWS.out)
      obtain ⟨rfl, rfl⟩ := HWK.out sm wt HWE.out
      go_wp2
      go_ret
      exact ⟨rfl, HBW.out⟩

theorem lsums_any (A : Option Addr) (n c : Nat) (l : List (List I3)) (i : Int) (w : World) (hp : Prgs w A n l) :
    Calls Try.prog 6 #[.slice A n c, .int .i64 i] w (TrueAns w) := by
  by_cases hf : fewB l = true
  · by_cases h : ¬ okL l ∨ i < 0 ∨ (n : Int) ≤ i
    · exact lsums_arg A n c l i w hp hf h
    · have hok : okL l := Classical.byContradiction fun hx => h (.inl hx)
      obtain ⟨k, rfl⟩ : ∃ k : Nat, i = (k : Int) := ⟨i.toNat, by omega⟩
      have hk : k < n := by omega
      rcases tasks3 hok (a := k) (by rw [hp.1]; exact hk) with ⟨ht, _⟩ | ⟨q, ht, hq, _⟩ | ⟨q, ht, hq, _, _⟩
      · exact lsums_none A n c l k w hp hf hok hk ht
      · exact lsums_large A n c l k q w hp hf hok hk ht hq
      · exact lsums_fine A n c l k q w hp hf hok hk ht hq
  · exact lsums_many A n c l i w hp (bool_no hf)

end Go.Proofs.Ytcbgmhbmdklbfaa

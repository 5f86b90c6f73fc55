/-
  Layer 12: traces of states as plain words; slices.IndexFunc, slices.ContainsFunc; the program's Trace.
-/
import Derived.Test.YtojaaoeflajdnaaDoorTkd
namespace Go.Proofs.YtojaaoeflajdnaaDoor
open Go.RowKit

def allB (l : List Int) : Bool := l.all stB
theorem allB_iff {l : List Int} : allB l = true ↔ ∀ i, i < l.length → stB (nth l i) = true := by
  unfold allB
  rw [List.all_eq_true]
  constructor
  · intro h i hi
    rw [nth_get hi]
    exact h _ (List.getElem_mem hi)
  · intro h x hx
    obtain ⟨i, hi, rfl⟩ := List.getElem_of_mem hx
    rw [← nth_get hi]
    exact h i hi
theorem allB_no {l : List Int} {i : Nat} (hi : i < l.length) (h : stB (nth l i) = false) : allB l = false := by
  rw [← Bool.not_eq_true, allB_iff]
  intro q
  rw [q i hi] at h
  cases h

/-- How many states are a trace, if the first one may be. -/
def chnF : List Int → Nat
  | [] => 0
  | [_] => 1
  | a :: b :: r => if legB a b then chnF (b :: r) + 1 else 1
/-- The first k are a trace, and the next one, if there is one, may not follow. -/
def IsAt (l : List Int) (k : Nat) : Prop := 1 ≤ k ∧ k ≤ l.length ∧ (∀ i, i + 1 < k → legB (nth l i) (nth l (i + 1)) = true) ∧ (k < l.length → legB (nth l (k - 1)) (nth l k) = false)
theorem IsAt.unique {l : List Int} {j k : Nat} (h : IsAt l j) (q : IsAt l k) : j = k := by
  rcases Nat.lt_trichotomy j k with g | g | g
  · have a := h.2.2.2 (by have := q.2.1; omega)
    have b := q.2.2.1 (j - 1) (by have := h.1; omega)
    rw [show j - 1 + 1 = j by have := h.1; omega, a] at b
    cases b
  · exact g
  · have a := q.2.2.2 (by have := h.2.1; omega)
    have b := h.2.2.1 (k - 1) (by have := q.1; omega)
    rw [show k - 1 + 1 = k by have := q.1; omega, a] at b
    cases b
theorem nth_cons0 (a : Int) (l : List Int) : nth (a :: l) 0 = a := rfl
theorem nth_cons1 (a : Int) (l : List Int) (i : Nat) : nth (a :: l) (i + 1) = nth l i := rfl
theorem chn_at : ∀ {l : List Int}, 0 < l.length → IsAt l (chnF l)
  | [_], _ => ⟨Nat.le_refl _, Nat.le_refl _, fun i hi => by unfold chnF at hi; omega, fun h => by unfold chnF at h; simp at h⟩
  | a :: b :: r, _ => by
    have ih := chn_at (l := b :: r) (by simp)
    unfold chnF
    by_cases h : legB a b = true
    · rw [if_pos h]
      refine ⟨by omega, by simpa using ih.2.1, fun i hi => ?_, fun hk => ?_⟩
      · cases i with
        | zero => exact h
        | succ i => rw [nth_cons1, nth_cons1]; exact ih.2.2.1 i (by omega)
      · have := ih.2.2.2 (by simpa using hk)
        have e : nth (a :: b :: r) (chnF (b :: r)) = nth (b :: r) (chnF (b :: r) - 1) := by
          obtain ⟨m, hm⟩ : ∃ m, chnF (b :: r) = m + 1 := ⟨chnF (b :: r) - 1, by have := ih.1; omega⟩
          rw [hm]; rfl
        rw [Nat.add_sub_cancel, nth_cons1, e]
        exact this
    · rw [if_neg h]
      refine ⟨Nat.le_refl _, by simp, fun i hi => by omega, fun _ => ?_⟩
      simpa [nth_cons0, nth_cons1] using h

/-- Trace's answer. -/
def traceR (l : List Int) : Int × Int := if l.length = 0 then (0, 1) else if allB l = false then (0, 1) else if nth l 0 ≠ 1 then (0, 0) else (((chnF l : Nat) : Int), 0)
theorem traceR_0 {l : List Int} (h : l.length = 0) : traceR l = (0, 1) := if_pos h
theorem traceR_1 {l : List Int} (h : ¬ l.length = 0) (k : allB l = false) : traceR l = (0, 1) := by unfold traceR; rw [if_neg h, if_pos k]
theorem traceR_2 {l : List Int} (h : ¬ l.length = 0) (k : allB l = true) (m : ¬ nth l 0 = 1) : traceR l = (0, 0) := by unfold traceR; rw [if_neg h, if_neg (by rw [k]; decide), if_pos m]
theorem traceR_3 {l : List Int} (h : ¬ l.length = 0) (k : allB l = true) (m : nth l 0 = 1) {x : Nat} (hx : IsAt l x) : traceR l = (((x : Nat) : Int), 0) := by
  unfold traceR; rw [if_neg h, if_neg (by rw [k]; decide), if_neg (by simp [m]), hx.unique (chn_at (by omega))]

section
variable {w : World} {A : Option Addr} {n : Nat} {l : List Int}
theorem Ints.at_ (h : Ints w A n l) {j : Nat} (hj : j < n) : ∃ b o, A = some ⟨b, o, none⟩ ∧ b < w.heap.size ∧ w.cell? ⟨b, o + j, none⟩ = some (.int .i64 (nth l j)) := by
  obtain ⟨b, o, e, hb, hc⟩ := h.2.2.2 (by omega)
  exact ⟨b, o, e, hb, hc j hj⟩
end

set_option maxHeartbeats 1000000 in
theorem sidx_any (A : Option Addr) (n c : Nat) (l : List Int) (w : World) (hx : Ints w A n l) :
    Calls Tryd.prog 30 #[.slice A n c, .func (.func 29) #[] #[]] w
      (fun e w' => w = w' ∧ ∃ k : Int, e = .returned (.int .i64 k) ∧ (decide (0 ≤ k)) = !allB l) := by
  have HX := Lib.hid hx
  have LX := Lib.hid hx.1
  have hnc := hx.2.1
  clear hx
  go_enter Tryd.func30, Tryd.ntmps30
  go_wp2_with fail
  go_loopw [8] (fun t wr => wr = w ∧ ∃ k : Nat, k ≤ n ∧ t = .int .i64 k ∧ Hid (∀ j, j < k → stB (nth l j) = true)) (fun t _ => n - (intOf t).toNat)
  case atStart => exact ⟨rfl, 0, Nat.zero_le _, rfl, Lib.hid (fun i hi => by omega)⟩
  case round =>
    obtain ⟨rfl, k, hk, rfl, OK⟩ := hrel
    by_cases hkn : k < n
    · obtain ⟨b, o, rfl, hb, c0⟩ := HX.out.at_ hkn
      have hkl : k < l.length := by rw [LX.out]; exact hkn
      obtain ⟨z1, hz⟩ : ∃ z1, nth l k = z1 := ⟨_, rfl⟩
      rw [hz] at c0
      have HC := Lib.hid (nost_any z1 wr)
      have HZ := Lib.hid hz
      clear hz
      go_wp2_with fail
      refine HC.out.mono ?_
      by_cases he : stB z1 = true
      · rw [he]
        rintro e w1 ⟨rfl, rfl⟩
        have OK2 : Hid (∀ j, j < k + 1 → stB (nth l j) = true) := Lib.hid (fun i hi => by
          by_cases e : i = k
          · subst e; rw [HZ.out]; exact he
          · exact OK.out i (by omega))
        clear he OK
        go_wp2_with fail
        go_roundw
        case rel => exact ⟨trivial, k + 1, by omega, by go_num, OK2⟩
        case measure => simp [intOf]; omega
      · have he' : stB z1 = false := by simpa using he
        rw [he']
        rintro e w1 ⟨rfl, rfl⟩
        have HH := Lib.hid (allB_no hkl (by rw [HZ.out]; exact he'))
        clear he he'
        go_wp2_with fail
        go_ret
        exact ⟨rfl, k, rfl, by rw [HH.out]; simp⟩
    · have HH : Hid (allB l = true) := Lib.hid (allB_iff.2 fun i hi => OK.out i (by have := LX.out; omega))
      go_wp2_with fail
      go_ret
      exact ⟨rfl, -1, rfl, by rw [HH.out]; rfl⟩

theorem scon_any (A : Option Addr) (n c : Nat) (l : List Int) (w : World) (hx : Ints w A n l) :
    Calls Tryd.prog 28 #[.slice A n c, .func (.func 29) #[] #[]] w (RetW (.bool (!allB l)) w) := by
  have HC := Lib.hid (sidx_any A n c l w hx)
  clear hx
  go_enter Tryd.func28, Tryd.ntmps28
  go_wp2_with fail
  refine HC.out.mono ?_
  rintro e w1 ⟨rfl, k, rfl, hk⟩
  have HK := Lib.hid hk
  clear hk
  go_wp2_with fail
  go_ret
  exact ⟨by simpa using HK.out, rfl⟩

set_option maxHeartbeats 4000000 in
theorem trace_any (A : Option Addr) (n c : Nat) (l : List Int) (w : World) (hx : Ints w A n l) (hc : n ≤ c) (hF : Fol w) :
    Calls Tryd.prog 22 #[.slice A n c] w (RetW (.tuple #[.int .i64 (traceR l).1, .int .i64 (traceR l).2]) w) := by
  have HX := Lib.hid hx
  have LX := Lib.hid hx.1
  have hnm := hx.2.1
  have HC := Lib.hid (scon_any A n c l w hx)
  have HF := Lib.hid hF
  clear hx hF
  by_cases h0 : n = 0
  · rw [traceR_0 (by rw [LX.out]; exact h0)]
    subst h0
    clear hc hnm
    go_enter Tryd.func22, Tryd.ntmps22
    go_wp2_with fail
    go_ret2
    exact ⟨rfl, rfl⟩
  · have hl0 : ¬ l.length = 0 := by rw [LX.out]; exact h0
    have d0 : ((n : Int) == 0) = false := by simpa using h0
    by_cases hA : allB l = true
    · have HA := Lib.hid hA
      obtain ⟨b, o, rfl, hb, c0⟩ := HX.out.at_ (show 0 < n by omega)
      obtain ⟨z0, hz0⟩ : ∃ z0, nth l 0 = z0 := ⟨_, rfl⟩
      rw [hz0] at c0
      rw [Nat.add_zero] at c0
      by_cases h1 : z0 = 1
      · subst h1
        obtain ⟨R, hR⟩ : ∃ R, traceR l = R := ⟨_, rfl⟩
        have HR : Hid (∀ k, IsAt l k → R = (((k : Nat) : Int), 0)) := Lib.hid (fun k hk => by rw [← hR]; exact traceR_3 hl0 hA hz0 hk)
        rw [hR]
        have HN : Hid (1 ≤ n) := Lib.hid (by omega)
        clear hR hz0 hl0 hA
        by_cases hcc : c ≤ 1
        · obtain rfl : n = 1 := by have := HN.out; omega
          go_enter Tryd.func22, Tryd.ntmps22
          go_wp2_with fail
          refine HC.out.mono ?_
          rw [HA.out]
          rintro e w1 ⟨rfl, rfl⟩
          go_wp2_with fail
          go_loopw [20] (fun t wr => wr = w ∧ t = .int .i64 0) (fun t _ => 0)
          case atStart => exact ⟨rfl, rfl⟩
          case round =>
            obtain ⟨rfl, rfl⟩ := hrel
            have HH := Lib.hid (HR.out 1 ⟨Nat.le_refl _, by rw [LX.out]; exact Nat.le_refl _, fun i hi => by omega, fun h => by have := LX.out; omega⟩)
            go_wp2_with fail
            go_ret2
            exact ⟨by rw [HH.out]; rfl, rfl⟩
        · go_enter Tryd.func22, Tryd.ntmps22
          go_wp2_with fail
          refine HC.out.mono ?_
          rw [HA.out]
          rintro e w1 ⟨rfl, rfl⟩
          go_wp2_with fail
          clear hcc
          go_loopw [20] (fun t wr => wr = w ∧ ∃ k : Nat, k + 1 ≤ n ∧ t = .int .i64 k ∧ Hid (∀ i, i < k → legB (nth l i) (nth l (i + 1)) = true)) (fun t _ => n - (intOf t).toNat)
          case atStart => exact ⟨rfl, 0, by have := HN.out; omega, rfl, Lib.hid (fun i hi => by omega)⟩
          case round =>
            obtain ⟨rfl, k, hk, rfl, OK⟩ := hrel
            by_cases hkn : k + 1 < n
            · obtain ⟨b1, o1, e1, hb1, q0⟩ := HX.out.at_ (show k < n by omega)
              obtain ⟨b2, o2, e2, hb2, q1⟩ := HX.out.at_ hkn
              injection e1 with e1
              injection e1 with e1 e3
              injection e2 with e2
              injection e2 with e2 e4
              subst e1 e2 e3 e4
              obtain ⟨y, hy⟩ : ∃ y, nth l k = y := ⟨_, rfl⟩
              obtain ⟨z, hz⟩ : ∃ z, nth l (k + 1) = z := ⟨_, rfl⟩
              rw [hy] at q0
              rw [hz] at q1
              rw [show o + (k + 1) = o + 1 + k by omega] at q1
              have HL := Lib.hid (leg_any y z wr HF.out)
              have HY := Lib.hid hy
              have HZ := Lib.hid hz
              clear hy hz
              go_wp2_with fail
              refine HL.out.mono ?_
              by_cases he : legB y z = true
              · rw [he]
                rintro e w1 ⟨rfl, rfl⟩
                have OK2 : Hid (∀ i, i < k + 1 → legB (nth l i) (nth l (i + 1)) = true) := Lib.hid (fun i hi => by
                  by_cases e : i = k
                  · subst e; rw [HY.out, HZ.out]; exact he
                  · exact OK.out i (by omega))
                clear he OK
                go_wp2_with fail
                go_roundw
                case rel => exact ⟨trivial, k + 1, by omega, by go_num, OK2⟩
                case measure => simp [intOf]; omega
              · have he' : legB y z = false := by simpa using he
                rw [he']
                rintro e w1 ⟨rfl, rfl⟩
                have HH := Lib.hid (HR.out (k + 1) ⟨by omega, by rw [LX.out]; omega, fun i hi => OK.out i (by omega), fun _ => by rw [Nat.add_sub_cancel, HY.out, HZ.out]; exact he'⟩)
                clear he he'
                go_wp2_with fail
                go_ret2
                exact ⟨by rw [HH.out]; simp, rfl⟩
            · have HH := Lib.hid (HR.out n ⟨HN.out, by rw [LX.out]; exact Nat.le_refl _, fun i hi => OK.out i (by omega), fun h => by have := LX.out; omega⟩)
              go_wp2_with fail
              go_ret2
              exact ⟨by rw [HH.out]; rfl, rfl⟩
      · rw [traceR_2 hl0 hA (by rw [hz0]; exact h1)]
        have d1 : (z0 == 1) = false := by simpa using h1
        clear hz0 hl0 hA h1
        go_enter Tryd.func22, Tryd.ntmps22
        go_wp2_with fail
        refine HC.out.mono ?_
        rw [HA.out]
        rintro e w1 ⟨rfl, rfl⟩
        go_wp2_with fail
        go_ret2
        exact ⟨rfl, rfl⟩
    · have hA' : allB l = false := by simpa using hA
      rw [traceR_1 hl0 hA']
      have HA := Lib.hid hA'
      clear hA hA' hl0
      go_enter Tryd.func22, Tryd.ntmps22
      go_wp2_with fail
      refine HC.out.mono ?_
      rw [HA.out]
      rintro e w1 ⟨rfl, rfl⟩
      go_wp2_with fail
      go_ret2
      exact ⟨rfl, rfl⟩

end Go.Proofs.YtojaaoeflajdnaaDoor

/-
  Layer 13: plain mathematics of what is left, behind a unit, and behind a slice.
-/
import Derived.Test.YtlbmlhcphoiaeaaDoorStg
namespace Go.Proofs.YtlbmlhcphoiaeaaDoor
open Go.RowKit

/-- How many units an instruction is. -/
def wgt (x : I3) : Int := if x.1 = 1 then x.2.1 else 1
theorem unitsK_cons (x : I3) (q : List I3) (m : Nat) : unitsK (x :: q) (m + 1) = wgt x + unitsK q m := by
  induction m with
  | zero => simp [unitsK, jO, jA, ith, wgt]
  | succ m ih =>
    rw [unitsK, ih]
    conv => rhs; rw [unitsK]
    rw [show jO (x :: q) (m + 1) = jO q m from rfl, show jA (x :: q) (m + 1) = jA q m from rfl]
    omega
theorem units_cons (x : I3) (q : List I3) : units (x :: q) = wgt x + (if x.1 = 9 then 0 else units q) := by
  unfold units
  rw [runLen]
  split
  · rw [show 1 = 0 + 1 from rfl, unitsK_cons]; rfl
  · rw [unitsK_cons]
theorem drop_cons {p : List I3} {k : Nat} (h : k < p.length) : p.drop k = ith p k :: p.drop (k + 1) := by
  rw [ith_get h]; exact List.drop_eq_getElem_cons h
theorem units_drop {p : List I3} {k : Nat} (h : k < p.length) : units (p.drop k) = wgt (ith p k) + (if jO p k = 9 then 0 else units (p.drop (k + 1))) := by
  rw [drop_cons h, units_cons]; rfl
theorem wgt_pos {x : I3} (h : mayB x = true) : 1 ≤ wgt x := by
  have := may_bound h
  unfold wgt
  split
  · rename_i e; exact (this.2.2.2.2.2.2 e).1
  · omega
theorem units_nonneg {p : List I3} (h : okP p) : ∀ d k, p.length - k = d → 0 ≤ units (p.drop k) := by
  intro d
  induction d with
  | zero => intro k hk; rw [List.drop_eq_nil_iff.2 (by omega)]; decide
  | succ d ih =>
    intro k hk
    have hlt : k < p.length := by omega
    rw [units_drop hlt]
    have := wgt_pos (h.2.2 k hlt)
    have := ih (k + 1) (by omega)
    split <;> omega

section
variable {t : Tk} {p : List I3} {k : Nat}
theorem outB_mono {m : Nat} (h : outB p k = true) (hm : k ≤ m) : outB p m = true := by
  obtain ⟨j, hj, e⟩ := outB_iff.1 h
  exact outB_iff.2 ⟨j, by omega, e⟩
theorem outB_next (h : outB p k = false) (e : jO p k ≠ 9) : outB p (k + 1) = false := outB_false.2 fun j hj => by
  rcases Nat.lt_or_ge j k with q | q
  · exact outB_false.1 h j q
  · obtain rfl : j = k := by omega
    exact e
theorem outB_hit (e : jO p k = 9) : outB p (k + 1) = true := outB_iff.2 ⟨k, by omega, e⟩

/-- What is left of a task that fits, as one number. -/
noncomputable def leftV (t : Tk) (p : List I3) : Int := if outB p t.pc.toNat = true then 0 else units (p.drop t.pc.toNat) - t.un
theorem leftR_ok (h : okF t p) : leftR t p = (leftV t p, 0) := by
  unfold leftR leftV
  rw [if_pos (okFB_yes h)]
  split <;> rfl
theorem leftV_out {k : Nat} (hk : t.pc = k) (h : outB p k = true) : leftV t p = 0 := by unfold leftV; rw [hk, Int.toNat_natCast, if_pos h]
theorem leftV_in {k : Nat} (hk : t.pc = k) (h : outB p k = false) : leftV t p = units (p.drop k) - t.un := by unfold leftV; rw [hk, Int.toNat_natCast, if_neg (by rw [h]; decide)]

/-- Behind a unit one fewer is left. -/
theorem left_unit (h : okF t p) (e : (unitR t p).2.2 = 0) : leftV (unitR t p).1 p = max (leftV t p - 1) 0 ∧ 0 ≤ leftV t p := by
  obtain ⟨k, hk, h1, h2, h3, h4, h5, h6, h7⟩ := h.num
  have hw := fun q => h.work hk q
  rw [(unit_ok e).2.2, atI_nat hk]
  have hp := h.2.1
  have hnn := fun j => units_nonneg hp (p.length - j) j rfl
  unfold goT goW
  dsimp only
  by_cases hl : k < p.length
  · have ha := atN_in hl
    have hud := units_drop hl
    have hm := hp.2.2 k hl
    have hwp := wgt_pos hm
    have hwe : wgt (ith p k) = if jO p k = 1 then jA p k else 1 := rfl
    have hn1 := hnn (k + 1)
    by_cases ho : outB p k = true
    · rw [leftV_out hk ho]
      refine ⟨?_, by omega⟩
      have h0 : max (0 - 1 : Int) 0 = 0 := by decide
      rw [h0]
      split
      · split
        · exact leftV_out (k := k + 1) (by dsimp only; omega) (outB_mono ho (by omega))
        · exact leftV_out (k := k) (by dsimp only; omega) ho
      · rw [if_pos (by omega)]
        exact leftV_out (k := k + 1) (by dsimp only; omega) (outB_mono ho (by omega))
    · have ho : outB p k = false := by cases hh : outB p k <;> simp_all
      rw [leftV_in hk ho]
      by_cases c : jO p k = 1
      · have c9 : jO p k ≠ 9 := by omega
        rw [if_neg c9] at hud
        rw [if_pos c] at hwe
        obtain ⟨hu, -⟩ := hw (by rw [ha]; exact c)
        rw [ha] at hu ⊢
        dsimp only at hu ⊢
        rw [if_pos c]
        split
        · rename_i d
          rw [leftV_in (k := k + 1) (by dsimp only; omega) (outB_next ho c9)]
          dsimp only
          omega
        · rename_i d
          rw [leftV_in (k := k) (by dsimp only; omega) ho]
          dsimp only
          omega
      · rw [ha] at h7 ⊢
        dsimp only at h7 ⊢
        have hu : t.un = 0 := by omega
        rw [if_neg c, if_pos (by omega)]
        rw [if_neg c] at hwe
        by_cases c9 : jO p k = 9
        · rw [if_pos c9] at hud
          rw [leftV_out (k := k + 1) (by dsimp only; omega) (outB_hit c9)]
          omega
        · rw [if_neg c9] at hud
          rw [leftV_in (k := k + 1) (by dsimp only; omega) (outB_next ho c9)]
          dsimp only
          omega
  · have hkn : k = p.length := by omega
    have ha := atN_end hkn
    have hu : t.un = 0 := by rw [ha] at h7; dsimp only at h7; omega
    have hz : leftV t p = 0 := by
      by_cases ho : outB p k = true
      · exact leftV_out hk ho
      · have ho : outB p k = false := by cases hh : outB p k <;> simp_all
        rw [leftV_in hk ho, List.drop_eq_nil_iff.2 (by omega), hu]; rfl
    rw [hz, ha]
    dsimp only
    rw [if_neg (by decide), if_neg (by omega)]
    refine ⟨?_, by omega⟩
    have hz2 : leftV { t with pc := t.pc, rn := t.rn + 1 } p = leftV t p := rfl
    rw [hz2, hz]; decide

/-- A run of units: what is known of its end. -/
theorem run_left : ∀ (k n : Nat) (t : Tk), okF t p → (runR p k n t).2.2.2 = 0 →
    ∃ m : Nat, m ≤ k ∧ (0 < k → 0 < m) ∧ (runR p k n t).2.2.1 = ((n + m : Nat) : Int) ∧ okF (runR p k n t).1 p ∧ leftV (runR p k n t).1 p = max (leftV t p - m) (min (leftV t p) 0) ∧ (runR p k n t).1.rn = t.rn + m ∧ ((runR p k n t).2.1.1 ≠ 0 ∨ m = k) := by
  intro k
  induction k with
  | zero => intro n t h _; exact ⟨0, by omega, by omega, rfl, h, by rw [runR]; dsimp only; omega, by rw [runR]; dsimp only; omega, .inr rfl⟩
  | succ k ih =>
    intro n t h e
    by_cases e0 : (unitR t p).2.2 = 0
    · have hk := unit_keeps h e0
      obtain ⟨hl, hl0⟩ := left_unit h e0
      have hr : (unitR t p).1.rn = t.rn + 1 := by
        rw [(unit_ok e0).2.2]
        unfold goT goW
        dsimp only
        split
        · split <;> rfl
        · rfl
      by_cases x0 : (unitR t p).2.1.1 = 0
      · rw [runR_go e0 x0] at e ⊢
        obtain ⟨m, m1, m2, m3, m4, m5, m6, m7⟩ := ih (n + 1) _ hk e
        refine ⟨m + 1, by omega, by omega, by rw [m3]; omega, m4, by rw [m5, hl]; omega, by rw [m6, hr]; omega, ?_⟩
        rcases m7 with m7 | m7
        · exact .inl m7
        · exact .inr (by omega)
      · rw [runR_ask e0 x0]
        exact ⟨1, by omega, by omega, rfl, hk, by rw [hl]; omega, hr, .inl x0⟩
    · rw [runR_err e0] at e; exact absurd e e0
end

end Go.Proofs.YtlbmlhcphoiaeaaDoor

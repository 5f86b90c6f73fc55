/-
  Layer 13: small words about units and what is left, for the laws.
-/
import Derived.Test.YtlbmlhcphoiaeaaDoorStn
namespace Go.Proofs.YtlbmlhcphoiaeaaDoor
open Go.RowKit

theorem do_ok {t : Tk} {p : List I3} (h : (doR t p).2.2 = 0) : okF t p ∧ (unitR t p).2.2 = 0 ∧ doR t p = unitR t p := by
  by_cases q : okF t p
  · rw [doR_yes q] at h; exact ⟨q, h, doR_yes q⟩
  · rw [doR_no q] at h; exact absurd h (by decide)
theorem unit_ids {t : Tk} {p : List I3} (h : (unitR t p).2.2 = 0) : (unitR t p).1.id = t.id ∧ (unitR t p).1.tn = t.tn := by
  rw [(unit_ok h).2.2]
  unfold goT goW
  dsimp only
  split
  · split <;> exact ⟨rfl, rfl⟩
  · exact ⟨rfl, rfl⟩
theorem unit_go {t : Tk} {p : List I3} (h : t.st = 2) (k : t.rn ≠ 1099511627776) : (unitR t p).2.2 = 0 := by
  unfold unitR; rw [if_neg (fun q => q h), if_neg k]
theorem left_end {t : Tk} {p : List I3} (h : okF t p) (q : ¬ t.pc < p.length) : leftV t p = 0 := by
  obtain ⟨k, hk, h1, -⟩ := h.num
  have := leftR_end h hk (by omega)
  rw [leftR_ok h] at this
  exact (Prod.mk.inj this).1
theorem leftV_le {t : Tk} {p : List I3} (h : okF t p) : leftV t p ≤ 3200 := by
  obtain ⟨k, hk, h1, h2, h3, -⟩ := h.num
  by_cases ho : outB p k = true
  · rw [leftV_out hk ho]; omega
  · rw [leftV_in hk (by cases hh : outB p k <;> simp_all)]
    by_cases hl : k < p.length
    · have := (units_room (okP_drop h.2.1 hl) (Nat.le_refl _)).2
      unfold units
      omega
    · rw [List.drop_eq_nil_iff.2 (by omega)]
      have : units [] = 0 := rfl
      omega
theorem unit_pc {t : Tk} {p : List I3} (_ : okF t p) (e : (unitR t p).2.2 = 0) : t.pc ≤ (unitR t p).1.pc ∧ (unitR t p).1.pc ≤ t.pc + 1 ∧ (unitR t p).1.st = t.st := by
  rw [(unit_ok e).2.2]
  unfold goT goW
  dsimp only
  split
  · split
    · exact ⟨by dsimp only; omega, by dsimp only; omega, rfl⟩
    · exact ⟨by dsimp only; omega, by dsimp only; omega, rfl⟩
  · split
    · exact ⟨by dsimp only; omega, by dsimp only; omega, rfl⟩
    · exact ⟨by dsimp only; omega, by dsimp only; omega, rfl⟩


end Go.Proofs.YtlbmlhcphoiaeaaDoor

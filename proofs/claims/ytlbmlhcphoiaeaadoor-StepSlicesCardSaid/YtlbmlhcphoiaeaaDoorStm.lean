/-
  Layer 13: plain mathematics of units: what a unit keeps, and how units one behind the other go on.
-/
import Derived.Test.YtlbmlhcphoiaeaaDoorStd
namespace Go.Proofs.YtlbmlhcphoiaeaaDoor
open Go.RowKit

section
variable {t : Tk} {p : List I3}
theorem runR_err {k n : Nat} (h : (unitR t p).2.2 ≠ 0) : runR p (k + 1) n t = (zT, zI, 0, (unitR t p).2.2) := if_pos h
theorem runR_ask {k n : Nat} (h : (unitR t p).2.2 = 0) (q : (unitR t p).2.1.1 ≠ 0) : runR p (k + 1) n t = ((unitR t p).1, (unitR t p).2.1, ((n + 1 : Nat) : Int), 0) := by
  rw [runR, if_neg (fun e => e h), if_pos q]
theorem runR_go {k n : Nat} (h : (unitR t p).2.2 = 0) (q : (unitR t p).2.1.1 = 0) : runR p (k + 1) n t = runR p k (n + 1) (unitR t p).1 := by
  rw [runR, if_neg (fun e => e h), if_neg (fun e => e q)]

theorem atI_nat {k : Nat} (hk : t.pc = k) : atI p t.pc = atN p k := by unfold atI; rw [hk, Int.toNat_natCast]

/-- What a unit is, if there is one. -/
theorem unit_ok (h : (unitR t p).2.2 = 0) : t.st = 2 ∧ t.rn ≠ 1099511627776 ∧ unitR t p = (goT t (atI p t.pc) p.length, efI (atI p t.pc), 0) := by
  by_cases hs : t.st = 2
  · by_cases hr : t.rn = 1099511627776
    · rw [unitR_2 hs hr] at h; exact absurd h (by decide)
    · refine ⟨hs, hr, ?_⟩
      unfold unitR
      rw [if_neg (fun q => q hs), if_neg hr]
  · rw [unitR_1 hs] at h; exact absurd h (by decide)

theorem unit_zero (h : okF t p) (e : (unitR t p).2.2 = 0) (q : (unitR t p).2.1.1 = 0) : (unitR t p).2.1 = zI := by
  obtain ⟨k, hk, h1, -⟩ := h.num
  rw [(unit_ok e).2.2] at q ⊢
  have hm := may_bound (atN_may h.2.1 h1)
  rw [atI_nat hk] at q ⊢
  dsimp only at q ⊢
  unfold efI at q ⊢
  by_cases c : (atN p k).1 = 1
  · rw [if_pos c]
  · rw [if_neg c] at q; omega

/-- A unit keeps that the task fits. -/
theorem unit_keeps (h : okF t p) (e : (unitR t p).2.2 = 0) : okF (unitR t p).1 p := by
  obtain ⟨k, hk, h1, h2, h3, h4, h5, h6, h7⟩ := h.num
  obtain ⟨e1, e2, e3⟩ := unit_ok e
  rw [e3]
  have hw := fun q => h.work hk q
  have hm := may_bound (atN_may h.2.1 h1)
  rw [atI_nat hk]
  obtain ⟨⟨⟨o1, o2, o3, o4, o5, o6, o7⟩, o8⟩, hp, -, -⟩ := h
  unfold goT goW
  dsimp only
  by_cases c : (atN p k).1 = 1
  · obtain ⟨u1, u2⟩ := hw c
    have u3 := hm.2.2.2.2.2.2 c
    rw [if_pos c]
    by_cases d : t.un + 1 = (atN p k).2.1
    · rw [if_pos d]
      refine ⟨⟨⟨o1, o2, o3, ?_, ?_, ?_, o7⟩, o8⟩, hp, ?_, .inl rfl⟩ <;> dsimp only <;> omega
    · rw [if_neg d]
      refine ⟨⟨⟨o1, o2, o3, o4, ?_, ?_, o7⟩, o8⟩, hp, ?_, .inr ⟨?_, ?_, ?_⟩⟩
      · dsimp only; omega
      · dsimp only; omega
      · dsimp only; omega
      · dsimp only; omega
      · dsimp only; rw [hk, Int.toNat_natCast]; rw [atN_in u2] at c; exact c
      · dsimp only; rw [hk, Int.toNat_natCast]; rw [atN_in u2] at d u1; dsimp only at d u1; omega
  · have hu : t.un = 0 := by omega
    rw [if_neg c]
    by_cases d : t.pc < p.length
    · rw [if_pos d]
      refine ⟨⟨⟨o1, o2, o3, ?_, o5, ?_, o7⟩, o8⟩, hp, ?_, .inl hu⟩ <;> dsimp only <;> omega
    · rw [if_neg d]
      refine ⟨⟨⟨o1, o2, o3, o4, o5, ?_, o7⟩, o8⟩, hp, ?_, .inl hu⟩ <;> dsimp only <;> omega
end

theorem sliceR_no {t : Tk} {p : List I3} {b : Int} (h : ¬ (okF t p ∧ 1 ≤ b ∧ b ≤ 100)) : sliceR t p b = (zT, zI, 0, 1) := if_neg (fun q => h ⟨okFB_iff.1 q.1, q.2⟩)
theorem sliceR_yes {t : Tk} {p : List I3} {m : Nat} (h : okF t p) (h1 : 1 ≤ m) (h2 : m ≤ 100) : sliceR t p (m : Int) = runR p m 0 t := by
  unfold sliceR
  rw [if_pos ⟨okFB_yes h, by omega, by omega⟩, Int.toNat_natCast]

/-- What lies there between a slice's rounds: the task, nothing in the result's places yet. -/
structure SlI (w wr : World) (t : Tk) : Prop where
  t : Bk wr w.heap.size 24 (tc t)
  r : Bk wr (w.heap.size + 1) 24 (tc zT)
  x : Bk wr (w.heap.size + 1 + 1) 28 #[.int .i64 0, .int .i64 0, .int .i64 0]
  b : Below w.heap.size w wr

end Go.Proofs.YtlbmlhcphoiaeaaDoor

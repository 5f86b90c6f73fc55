/-
  Layer 13: what a unit, a slice, what is left, and the next instruction come to, as plain words over a task's numbers and a program's list.
-/
import Derived.Test.YtlbmlhcphoiaeaaDoorTkb
import Derived.Test.YtlbmlhcphoiaeaaDoorMath
namespace Go.Proofs.YtlbmlhcphoiaeaaDoor
open Go.RowKit

def okF (t : Tk) (p : List I3) : Prop := okT t ∧ okP p ∧ t.pc ≤ p.length ∧ (t.un = 0 ∨ (t.pc < p.length ∧ jO p t.pc.toNat = 1 ∧ t.un < jA p t.pc.toNat))
open Classical in
/-- A task fits a program. -/
noncomputable def okFB (t : Tk) (p : List I3) : Bool := decide (okF t p)
open Classical in
theorem okFB_iff {t : Tk} {p : List I3} : okFB t p = true ↔ okF t p := by unfold okFB; exact decide_eq_true_iff
theorem okFB_yes {t : Tk} {p : List I3} (h : okF t p) : okFB t p = true := okFB_iff.2 h
theorem okFB_no {t : Tk} {p : List I3} (h : ¬ okF t p) : okFB t p = false := by
  cases e : okFB t p with
  | false => rfl
  | true => exact absurd (okFB_iff.1 e) h

/-- The instruction at a place; behind the last one an exit. -/
def atN (p : List I3) (k : Nat) : I3 := if k = p.length then (9, 0, 0) else ith p k
def atI (p : List I3) (pc : Int) : I3 := atN p pc.toNat
def vI (x : I3) : Value := .agg #[.int .i64 x.1, .int .i64 x.2.1, .int .i64 x.2.2]
def zI : I3 := (0, 0, 0)
theorem atN_end {p : List I3} {k : Nat} (h : k = p.length) : atN p k = (9, 0, 0) := if_pos h
theorem atN_in {p : List I3} {k : Nat} (h : k < p.length) : atN p k = (jO p k, jA p k, jB p k) := if_neg (by omega)
theorem okF.num {t : Tk} {p : List I3} (h : okF t p) : ∃ k : Nat, t.pc = k ∧ k ≤ p.length ∧ p.length ≤ 32 ∧ 0 ≤ t.un ∧ t.un < 100 ∧ 0 ≤ t.rn ∧ t.rn ≤ 1099511627776 ∧ (t.un = 0 ∨ ((atN p k).1 = 1 ∧ t.un < (atN p k).2.1)) := by
  obtain ⟨⟨⟨_, _, _, h1, h2, h3, _⟩, _⟩, hp, h5, h6⟩ := h
  refine ⟨t.pc.toNat, by omega, by omega, hp.2.1, h2.1, h2.2, h3.1, h3.2, ?_⟩
  rcases h6 with h6 | ⟨h6, h7, h8⟩
  · exact .inl h6
  · rw [atN_in (by omega)]; exact .inr ⟨h7, h8⟩
/-- Whatever stands at a place of a program that may be, may be. -/
theorem atN_may {p : List I3} (h : okP p) {k : Nat} (hk : k ≤ p.length) : mayB (atN p k) = true := by
  by_cases e : k = p.length
  · rw [atN_end e]; decide
  · rw [show atN p k = ith p k from if_neg e]; exact h.2.2 k (by omega)

noncomputable def nextR (t : Tk) (p : List I3) : I3 × Int := if okFB t p = true then (atI p t.pc, 0) else (zI, 1)
theorem nextR_no {t : Tk} {p : List I3} (h : ¬ okF t p) : nextR t p = (zI, 1) := by unfold nextR; rw [okFB_no h]; rfl
theorem nextR_yes {t : Tk} {p : List I3} (h : okF t p) : nextR t p = (atI p t.pc, 0) := by unfold nextR; rw [okFB_yes h]; rfl

/-- The task behind so many units of work. -/
def goW (t : Tk) (a : Int) : Tk := if t.un + 1 = a then { t with un := 0, pc := t.pc + 1 } else { t with un := t.un + 1 }
/-- The task behind a unit of an instruction, in a program of n. -/
def goT (t : Tk) (x : I3) (n : Nat) : Tk := if x.1 = 1 then goW { t with rn := t.rn + 1 } x.2.1 else { t with pc := if t.pc < n then t.pc + 1 else t.pc, rn := t.rn + 1 }
def efI (x : I3) : I3 := if x.1 = 1 then zI else x
/-- A unit of a task that fits. -/
def unitR (t : Tk) (p : List I3) : Tk × I3 × Int :=
  if t.st ≠ 2 then (zT, zI, 9) else if t.rn = 1099511627776 then (zT, zI, 4) else (goT t (atI p t.pc) p.length, efI (atI p t.pc), 0)
theorem unitR_1 {t : Tk} {p : List I3} (h : t.st ≠ 2) : unitR t p = (zT, zI, 9) := if_pos h
theorem unitR_2 {t : Tk} {p : List I3} (h : t.st = 2) (k : t.rn = 1099511627776) : unitR t p = (zT, zI, 4) := by unfold unitR; rw [if_neg (fun q => q h), if_pos k]
theorem unitR_3 {t : Tk} {p : List I3} (h : t.st = 2) (k : t.rn ≠ 1099511627776) (m : (atI p t.pc).1 = 1) : unitR t p = (goW { t with rn := t.rn + 1 } (atI p t.pc).2.1, zI, 0) := by
  unfold unitR goT efI; rw [if_neg (fun q => q h), if_neg k, if_pos m, if_pos m]
theorem unitR_4 {t : Tk} {p : List I3} (h : t.st = 2) (k : t.rn ≠ 1099511627776) (m : (atI p t.pc).1 ≠ 1) (hp : t.pc < p.length) : unitR t p = ({ t with pc := t.pc + 1, rn := t.rn + 1 }, atI p t.pc, 0) := by
  unfold unitR goT efI; rw [if_neg (fun q => q h), if_neg k, if_neg m, if_neg m, if_pos hp]
theorem unitR_5 {t : Tk} {p : List I3} (h : t.st = 2) (k : t.rn ≠ 1099511627776) (m : (atI p t.pc).1 ≠ 1) (hp : ¬ t.pc < p.length) : unitR t p = ({ t with rn := t.rn + 1 }, atI p t.pc, 0) := by
  unfold unitR goT efI; rw [if_neg (fun q => q h), if_neg k, if_neg m, if_neg m, if_neg hp]
noncomputable def doR (t : Tk) (p : List I3) : Tk × I3 × Int := if okFB t p = true then unitR t p else (zT, zI, 1)
theorem doR_no {t : Tk} {p : List I3} (h : ¬ okF t p) : doR t p = (zT, zI, 1) := by unfold doR; rw [okFB_no h]; rfl
theorem doR_yes {t : Tk} {p : List I3} (h : okF t p) : doR t p = unitR t p := by unfold doR; rw [okFB_yes h]; rfl

/-- Units one behind the other, at most k of them (n are done): the task, what it asks for, how many, an error. -/
def runR (p : List I3) : Nat → Nat → Tk → Tk × I3 × Int × Int
  | 0, n, t => (t, zI, n, 0)
  | k + 1, n, t =>
    if (unitR t p).2.2 ≠ 0 then (zT, zI, 0, (unitR t p).2.2)
    else if (unitR t p).2.1.1 ≠ 0 then ((unitR t p).1, (unitR t p).2.1, ((n + 1 : Nat) : Int), 0)
    else runR p k (n + 1) (unitR t p).1
noncomputable def sliceR (t : Tk) (p : List I3) (b : Int) : Tk × I3 × Int × Int :=
  if okFB t p = true ∧ 1 ≤ b ∧ b ≤ 100 then runR p b.toNat 0 t else (zT, zI, 0, 1)

open Classical in
/-- There is an exit ahead of a place. -/
noncomputable def outB (p : List I3) (k : Nat) : Bool := decide (∃ j, j < k ∧ jO p j = 9)
noncomputable def leftR (t : Tk) (p : List I3) : Int × Int :=
  if okFB t p = true then (if outB p t.pc.toNat = true then (0, 0) else (units (p.drop t.pc.toNat) - t.un, 0)) else (0, 1)

end Go.Proofs.YtlbmlhcphoiaeaaDoor

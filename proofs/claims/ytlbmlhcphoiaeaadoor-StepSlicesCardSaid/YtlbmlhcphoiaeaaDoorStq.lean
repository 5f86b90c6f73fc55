/-
  Layer 13: plain mathematics of slices: a slice is just its units, one behind the other.
-/
import Derived.Test.YtlbmlhcphoiaeaaDoorSto
namespace Go.Proofs.YtlbmlhcphoiaeaaDoor
open Go.RowKit

theorem unit_rn_ {t : Tk} {p : List I3} (e : (unitR t p).2.2 = 0) : (unitR t p).1.rn = t.rn + 1 := by
  rw [(unit_ok e).2.2]
  unfold goT goW
  dsimp only
  split
  · split <;> rfl
  · rfl
/-- The task behind i units. -/
def itU (p : List I3) : Nat → Tk → Tk
  | 0, t => t
  | i + 1, t => itU p i (unitR t p).1
theorem itU_succ (p : List I3) : ∀ (i : Nat) (t : Tk), itU p (i + 1) t = (unitR (itU p i t) p).1 := by
  intro i
  induction i with
  | zero => intro t; rfl
  | succ i ih => intro t; rw [itU, ih]; rfl

/-- A slice of a task that has units to go. -/
structure Ran (p : List I3) (t t2 : Tk) (x : I3) (m k : Nat) : Prop where
  le : m ≤ k
  pos : 0 < k → 0 < m
  fin : itU p m t = t2
  ok : ∀ i, i ≤ m → okF (itU p i t) p
  st : ∀ i, i ≤ m → (itU p i t).st = 2
  rn : ∀ i, i ≤ m → (itU p i t).rn = t.rn + i
  id : ∀ i, i ≤ m → (itU p i t).id = t.id
  all : x.1 ≠ 0 ∨ m = k
  mid : ∀ i, i + 1 < m → (unitR (itU p i t) p).2.1.1 = 0
  last : ∀ i, i + 1 = m → (unitR (itU p i t) p).2.1 = x

theorem run_units {p : List I3} : ∀ (k n : Nat) (t : Tk), okF t p → t.st = 2 → t.rn + k ≤ 1099511627776 → ∃ m : Nat, (runR p k n t).2.2.1 = ((n + m : Nat) : Int) ∧ (runR p k n t).2.2.2 = 0 ∧ (k = 0 → (runR p k n t).2.1 = zI) ∧ Ran p t (runR p k n t).1 (runR p k n t).2.1 m k := by
  intro k
  induction k with
  | zero =>
    intro n t h hs _
    have z : ∀ {i : Nat}, i ≤ 0 → i = 0 := fun {i} hi => by omega
    refine ⟨0, rfl, rfl, fun _ => rfl, ⟨by omega, by omega, rfl, fun i hi => ?_, fun i hi => ?_, fun i hi => ?_, fun i hi => ?_, .inr rfl, fun i hi => by omega, fun i hi => by omega⟩⟩
    · obtain rfl := z hi; exact h
    · obtain rfl := z hi; exact hs
    · obtain rfl := z hi; show t.rn = t.rn + ((0 : Nat) : Int); omega
    · obtain rfl := z hi; rfl
  | succ k ih =>
    intro n t h hs hr
    have e0 : (unitR t p).2.2 = 0 := unit_go hs (by omega)
    have hk := unit_keeps h e0
    have hrn := unit_rn_ e0
    have hst := (unit_pc h e0).2.2
    have hid := (unit_ids e0).1
    have hfin : ∀ {i : Nat}, i ≠ 0 → itU p i t = itU p (i - 1) (unitR t p).1 := fun {i} hi => by
      obtain ⟨j, rfl⟩ : ∃ j, i = j + 1 := ⟨i - 1, by omega⟩
      rfl
    by_cases x0 : (unitR t p).2.1.1 = 0
    · rw [runR_go e0 x0]
      obtain ⟨m, c1, c2, c3, q⟩ := ih (n + 1) _ hk (hst.trans hs) (by rw [hrn]; omega)
      refine ⟨m + 1, by rw [c1]; omega, c2, by omega, ⟨by have := q.le; omega, by omega, q.fin, ?_, ?_, ?_, ?_, ?_, ?_, ?_⟩⟩
      · intro i hi
        by_cases z : i = 0
        · subst z; exact h
        · rw [hfin z]; exact q.ok _ (by omega)
      · intro i hi
        by_cases z : i = 0
        · subst z; exact hs
        · rw [hfin z]; exact q.st _ (by omega)
      · intro i hi
        by_cases z : i = 0
        · subst z; show t.rn = t.rn + ((0 : Nat) : Int); omega
        · rw [hfin z, q.rn _ (by omega), hrn]; omega
      · intro i hi
        by_cases z : i = 0
        · subst z; rfl
        · rw [hfin z, q.id _ (by omega), hid]
      · rcases q.all with a | a
        · exact .inl a
        · exact .inr (by omega)
      · intro i hi
        by_cases z : i = 0
        · subst z; exact x0
        · rw [hfin z]; exact q.mid _ (by omega)
      · intro i hi
        by_cases z : i = 0
        · subst z
          have hk0 : k = 0 := by
            rcases Nat.eq_zero_or_pos k with a | a
            · exact a
            · have := q.pos a; omega
          rw [c3 hk0]
          exact unit_zero h e0 x0
        · rw [hfin z]; exact q.last _ (by omega)
    · rw [runR_ask e0 x0]
      refine ⟨1, rfl, rfl, by omega, ⟨by omega, by omega, rfl, ?_, ?_, ?_, ?_, .inl x0, fun i hi => by omega, ?_⟩⟩
      · intro i hi
        rcases Nat.eq_zero_or_pos i with z | z
        · subst z; exact h
        · obtain rfl : i = 1 := by omega
          exact hk
      · intro i hi
        rcases Nat.eq_zero_or_pos i with z | z
        · subst z; exact hs
        · obtain rfl : i = 1 := by omega
          exact hst.trans hs
      · intro i hi
        rcases Nat.eq_zero_or_pos i with z | z
        · subst z; show t.rn = t.rn + ((0 : Nat) : Int); omega
        · obtain rfl : i = 1 := by omega
          exact hrn
      · intro i hi
        rcases Nat.eq_zero_or_pos i with z | z
        · subst z; rfl
        · obtain rfl : i = 1 := by omega
          exact hid
      · intro i hi
        obtain rfl : i = 0 := by omega
        rfl

end Go.Proofs.YtlbmlhcphoiaeaaDoor

/-
  What a list of accesses comes to, one by one (the document's layer 1, P1.3), as a function on lists; and a slice of accesses that reads as a list.
-/
import Derived.Test.YtmmilceemnggiaaCDo
namespace Go.Proofs.Ytmmilceemnggiaa
open Go.RowKit

/-- An access: its kind, its place, two numbers. -/
abbrev M := Int × Int × Int × Int

def mth (l : List M) (j : Nat) : M := l.getD j (0, 0, 0, 0)
def mK (l : List M) (j : Nat) : Int := (mth l j).1
def mP (l : List M) (j : Nat) : Int := (mth l j).2.1
def mA (l : List M) (j : Nat) : Int := (mth l j).2.2.1
def mB (l : List M) (j : Nat) : Int := (mth l j).2.2.2

def FitM (x : M) : Prop := Fit x.1 ∧ Fit x.2.1 ∧ Fit x.2.2.1 ∧ Fit x.2.2.2

/-- The slice whose cells begin at A, of n accesses, reads as the list l. -/
def Mics (w : World) (A : Option Addr) (n : Nat) (l : List M) : Prop :=
  l.length = n ∧ n * 32 ≤ 140737488351232 ∧ (∀ x ∈ l, FitM x) ∧
    (0 < n → ∃ b o, A = some ⟨b, o, none⟩ ∧ b < w.heap.size ∧ ∀ j, j < n →
      w.cell? ⟨b, o + j * 4, none⟩ = some (.int .i64 (mK l j)) ∧ w.cell? ⟨b, o + j * 4 + 1, none⟩ = some (.int .i64 (mP l j)) ∧
      w.cell? ⟨b, o + j * 4 + 2, none⟩ = some (.int .i64 (mA l j)) ∧ w.cell? ⟨b, o + j * 4 + 3, none⟩ = some (.int .i64 (mB l j)))

theorem Mics.below {w w' : World} {A : Option Addr} {n : Nat} {l : List M} (h : Mics w A n l) (hb : Below w.heap.size w w') : Mics w' A n l :=
  ⟨h.1, h.2.1, h.2.2.1, fun hn => by
    obtain ⟨b, o, e, hlt, hc⟩ := h.2.2.2 hn
    refine ⟨b, o, e, Nat.lt_of_lt_of_le hlt hb.size, fun j hj => ?_⟩
    obtain ⟨h0, h1, h2, h3⟩ := hc j hj
    exact ⟨(hb.cell (p := ⟨b, o + j * 4, none⟩) hlt).trans h0, (hb.cell (p := ⟨b, o + j * 4 + 1, none⟩) hlt).trans h1, (hb.cell (p := ⟨b, o + j * 4 + 2, none⟩) hlt).trans h2, (hb.cell (p := ⟨b, o + j * 4 + 3, none⟩) hlt).trans h3⟩⟩

theorem Mics.fit {w : World} {A : Option Addr} {n : Nat} {l : List M} (h : Mics w A n l) {j : Nat} (hj : j < n) : Fit (mA l j) ∧ Fit (mB l j) := by
  have hl : j < l.length := by rw [h.1]; exact hj
  have hm : mth l j = l[j] := by simp [mth, List.getD, hl]
  have := h.2.2.1 _ (List.getElem_mem hl)
  rw [← hm] at this
  exact ⟨this.2.2.1, this.2.2.2⟩

/-- What the first k accesses come to: the cells, what each told, the first error. -/
def runK (zs : List Int) (l : List M) : Nat → List Int × List Int × Int
  | 0 => (zs, [], 0)
  | k + 1 =>
    if (runK zs l k).2.2 = 0 then
      (if (acc (runK zs l k).1 (mK l k) (mP l k) (mA l k) (mB l k)).2.2 = 0 then
        ((acc (runK zs l k).1 (mK l k) (mP l k) (mA l k) (mB l k)).1, (runK zs l k).2.1 ++ [(acc (runK zs l k).1 (mK l k) (mP l k) (mA l k) (mB l k)).2.1], 0)
      else ([], [], (acc (runK zs l k).1 (mK l k) (mP l k) (mA l k) (mB l k)).2.2))
    else runK zs l k

section
variable {zs : List Int} {l : List M} {k : Nat}

theorem runK_ok {cs : List Int} {ts : List Int} {cs' : List Int} {x : Int} (h : runK zs l k = (cs, ts, 0)) (ha : acc cs (mK l k) (mP l k) (mA l k) (mB l k) = (cs', x, 0)) : runK zs l (k + 1) = (cs', ts ++ [x], 0) := by
  rw [runK, h, ha]; simp

theorem runK_bad {cs : List Int} {ts : List Int} {cs' : List Int} {x y : Int} (h : runK zs l k = (cs, ts, 0)) (ha : acc cs (mK l k) (mP l k) (mA l k) (mB l k) = (cs', x, y)) (hy : y ≠ 0) : runK zs l (k + 1) = ([], [], y) := by
  rw [runK, h, ha]; simp [hy]

theorem runK_stays {y : Int} (hy : y ≠ 0) (h : runK zs l k = ([], [], y)) (d : Nat) : runK zs l (k + d) = ([], [], y) := by
  induction d with
  | zero => exact h
  | succ d ih => rw [← Nat.add_assoc, runK, ih]; simp [hy]

/-- Behind k accesses without an error there are as many cells, and k numbers were told. -/
theorem runK_len {cs ts : List Int} (h : runK zs l k = (cs, ts, 0)) : cs.length = zs.length ∧ ts.length = k := by
  induction k generalizing cs ts with
  | zero => simp [runK] at h; obtain ⟨rfl, rfl⟩ := h; exact ⟨rfl, rfl⟩
  | succ k ih =>
    rw [runK] at h
    split at h
    · rename_i h0
      split at h
      · rename_i h1
        obtain ⟨a, b⟩ := ih (cs := (runK zs l k).1) (ts := (runK zs l k).2.1) (by rw [← h0])
        injection h with e1 e2
        injection e2 with e2 _
        subst e1 e2
        exact ⟨by rw [acc_len h1, a], by simp [b]⟩
      · rename_i h1
        injection h with _ e2
        injection e2 with _ e3
        exact absurd e3 h1
    · rename_i h0
      rw [h] at h0
      exact absurd rfl h0
end

end Go.Proofs.Ytmmilceemnggiaa

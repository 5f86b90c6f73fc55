/-
  Layer 12: what the table of states holds, by the row's condition: a plain word for it, kept by all that makes memory alone.
-/
import Derived.Test.YtlbmlhcphoiaeaaDoorRowL
import Derived.Test.YtlbmlhcphoiaeaaDoorBlk
namespace Go.Proofs.YtlbmlhcphoiaeaaDoor
open Go.RowKit

/-- Is it a state? -/
def stB (n : Int) : Bool := decide (1 ≤ n) && decide (n ≤ 7)
/-- May a state follow another one? -/
def tabB (i j : Nat) : Bool :=
  (decide (i = 1) && (decide (j = 2) || decide (j = 7))) || (decide (i = 2) && (decide (j = 1) || (decide (3 ≤ j) && decide (j ≤ 7)))) || (decide (3 ≤ i) && decide (i ≤ 6) && (decide (j = 1) || decide (j = 7)))

/-- The table. -/
def Fol (w : World) : Prop := 0 < w.heap.size ∧ ∀ i j, i < 8 → j < 8 → w.cell? ⟨0, i * 8 + j, none⟩ = some (.bool (tabB i j))

theorem Fol.below {w w' : World} {B : Nat} (h : Fol w) (hb : Below B w w') (hB : 0 < B) : Fol w' :=
  ⟨Nat.lt_of_lt_of_le h.1 hb.size, fun i j hi hj => (hb.cell (p := ⟨0, i * 8 + j, none⟩) hB).trans (h.2 i j hi hj)⟩
theorem Fol.le {w w' : World} (h : Fol w) (hb : Below w.heap.size w w') : Fol w' := h.below hb h.1

theorem fol_of_laid (W : World) (h : laidMetH Tryd.prog [("ravel/life.follows", Rows.laid_ravel_life_follows)] W) : Fol W := by
  rw [MakeChecks.laidMetH_plain _ _ _ (by kernel_rfl)] at h
  obtain ⟨ps, ⟨g, t, cs, fuel, p, q, hg, ht, hv, hd, _, hps⟩, _, hin⟩ := h
  obtain rfl := Option.some.inj ((show Tryd.prog.globalNamed "ravel/life.follows" = some 0 by kernel_rfl).symm.trans hg)
  obtain rfl := Option.some.inj ((show (Tryd.prog.globals[0]?).map (·.type) = some 65 by kernel_rfl).symm.trans ht)
  obtain ⟨xs, m, _, ex, _, hl, hel⟩ := DataW.trod_array Tryd.underlying65 hd
  have c8 : Tryd.prog.cellsOf 64 = 8 := by kernel_rfl
  have c1 : Tryd.prog.cellsOf 4 = 1 := by kernel_rfl
  have e3 : xs.map (·.1) = _ := (DataW.agg.inj (Prod.mk.inj ex).1).symm
  have key : ∀ i j, i < 8 → j < 8 → cs.toList[i * 8 + j]? = some (.bool (tabB i j)) := by
    intro i j hi hj
    have hE := hel i hi
    rw [c8, List.getElem?_eq_getElem (by omega)] at hE
    obtain ⟨ys, m2, _, ey, _, hl2, hel2⟩ := DataW.trod_array Tryd.underlying64 hE
    have hF := hel2 j hj
    rw [c1, Nat.mul_one, List.getElem?_eq_getElem (by omega)] at hF
    obtain ⟨b, f1, f2⟩ := DataW.trod_bool Tryd.underlying4 hF
    have e4 : (xs.map (·.1))[i]? = some (.agg (ys.map (·.1))) := by
      rw [List.getElem?_map, List.getElem?_eq_getElem (by omega : i < xs.length), ey]; rfl
    have e5 : (ys.map (·.1))[j]? = some (.lit (.bool b)) := by
      rw [List.getElem?_map, List.getElem?_eq_getElem (by omega : j < ys.length), f2]; rfl
    have hb : b = tabB i j := by
      rw [e3] at e4
      have hd : ∀ i, i < 8 → ∀ (zs : List (DataW Unit)), (match (Rows.laid_ravel_life_follows : DataW Unit) with | .agg l => l | _ => [])[i]? = some (.agg zs) → ∀ j, j < 8 → zs[j]? = some (.lit (.bool (tabB i j))) := by
        intro i hi zs hz j hj
        have h8 : i = 0 ∨ i = 1 ∨ i = 2 ∨ i = 3 ∨ i = 4 ∨ i = 5 ∨ i = 6 ∨ i = 7 := by omega
        have k8 : j = 0 ∨ j = 1 ∨ j = 2 ∨ j = 3 ∨ j = 4 ∨ j = 5 ∨ j = 6 ∨ j = 7 := by omega
        rcases h8 with rfl | rfl | rfl | rfl | rfl | rfl | rfl | rfl <;>
          (simp only [Rows.laid_ravel_life_follows, List.getElem?_cons_zero, List.getElem?_cons_succ, Option.some.injEq, DataW.agg.injEq] at hz
           subst hz
           rcases k8 with rfl | rfl | rfl | rfl | rfl | rfl | rfl | rfl <;> rfl)
      have := hd i hi _ e4 j hj
      rw [e5] at this
      simpa using this
    subst hb
    have h0 : ((((cs.toList.drop (i * 8)).take 8).drop j).take 1)[0]? = some (.bool (tabB i j)) := by rw [f1]; rfl
    simpa [List.getElem?_take, List.getElem?_drop, hj] using h0
  refine ⟨?_, fun i j hi hj => ?_⟩
  · have hm : MemPlace.cell 0 0 ∈ ps := by
      rw [hps]
      have hs : 0 < cs.size := by
        have := (List.getElem?_eq_some_iff.1 (key 0 0 (by omega) (by omega))).1
        simpa using this
      exact List.mem_append_left _ (List.mem_append_left _ (MemPlace.mem_row.2 ⟨0, hs, by simp⟩))
    obtain ⟨⟨c, t, hc⟩, _⟩ := hin _ _ hm
    exact (Array.getElem?_eq_some_iff.1 hc).1
  · rw [World.var?_cell hg hv (i * 8 + j)]
    have := key i j hi hj
    simpa using this

end Go.Proofs.YtlbmlhcphoiaeaaDoor

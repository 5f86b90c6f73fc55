/-
  For the law HeapTimes: a map that has the times of just the timers that are there.
-/
import Derived.Test.YtjamoafihmcmeaaLHSorts
import Derived.Maps.Range
import Derived.Maps.RangeWalk
namespace Go.Proofs.Ytjamoafihmcmeaa
open Go.RowKit Go.Maps

theorem Try.zeroI64 (w : World) : (zeroValue 2).run Try.prog w = .ok (.int .i64 0) w := by kernel_rfl
/-- The datum D has just the timers of m. -/
structure DueD (D : DataW Unit) (m : List Tm) : Prop where
  has : ∀ x, Maps.has D (.int .i64 x) = decide (hasId m x)
  at_ : ∀ t ∈ m, D.atKey (.int .i64 t.2) (.lit (.int .i64 0)) = .lit (.int .i64 t.1)
  size : Maps.size D = m.length
/-- In block b lies a map that has just the timers of m (n entries at the most). -/
def DueM (w : World) (b n : Nat) (m : List Tm) : Prop :=
  ∃ D : DataW Unit, w.ownsMap Try.prog 2 (plainElem Try.prog 2) b n D ∧ DueD D m
theorem DueD.perm {D : DataW Unit} {m m' : List Tm} (h : DueD D m) (hp : m.Perm m') : DueD D m' :=
  ⟨fun x => by rw [h.has x]; exact decide_eq_decide.2 (hasId_perm hp x), fun t ht => h.at_ t (hp.mem_iff.2 ht), by rw [h.size, hp.length_eq]⟩
section
variable {w w' : World} {b n : Nat} {m m' : List Tm}
theorem DueM.made (w : World) : DueM (w.alloc (.map #[] 0)) w.heap.size 0 [] :=
  ⟨.map [], World.ownsMap_made w _ _ _, fun x => by symm; exact decide_eq_false (fun ⟨j, hj, _⟩ => absurd hj (Nat.not_lt_zero _)), (fun t ht => by cases ht), rfl⟩
theorem DueM.grown (h : DueM w b n m) {row : Option Nat} (hg : w.grownBy w' row) (hne : some b ≠ row) : DueM w' b n m := by
  obtain ⟨D, hD, hf⟩ := h
  exact ⟨D, hD.kept hg hne, hf⟩
theorem DueM.below (h : DueM w b n m) (hb : Below w.heap.size w w') : DueM w' b n m :=
  h.grown (row := none) ⟨hb.os, hb.tape, hb.output, hb.size, fun k hk _ => hb.block k hk⟩ (by simp)
theorem DueM.lt (h : DueM w b n m) : b < w.heap.size := by obtain ⟨D, hD, _⟩ := h; exact hD.lt
theorem DueM.perm (h : DueM w b n m) (hp : m.Perm m') : DueM w b n m' := by
  obtain ⟨D, hD, hf⟩ := h
  exact ⟨D, hD, hf.perm hp⟩
theorem DueM.mono (h : DueM w b n m) {n' : Nat} (hn : n ≤ n') : DueM w b n' m := by
  obtain ⟨D, hD, hf⟩ := h
  exact ⟨D, hD.mono hn, hf⟩
/-- 'at, is := due[id]'. -/
theorem DueM.get (h : DueM w b n m) {x : Int} (hx : Fit x) : ∃ v, (Instr.lookup 44 (.map (some b)) (.int .i64 x) true).run Try.prog w = .ok (.tuple #[.int .i64 v, .bool (decide (hasId m x))]) w ∧ ∀ t ∈ m, t.2 = x → v = t.1 := by
  obtain ⟨D, hD, hf⟩ := h
  obtain ⟨v, ps, hrun, hv⟩ := hD.look_ok Try.lawI64 Try.underlying44 (Try.zeroI64 w) (plainElem_int Try.underlying2 (wf_of_fit ⟨by decide, by decide⟩)) (keyI64 hx)
  obtain ⟨c, rfl, hc, _⟩ := plainElem_int_inv Try.underlying2 hv
  simp only [Prod.mk.injEq] at hc
  refine ⟨c, by rw [hrun, hf.has x], fun t ht e => ?_⟩
  have h1 := hf.at_ t ht
  rw [e, hc.1] at h1
  simpa using h1
theorem DueM.put (h : DueM w b n m) (hm : NoTwo m) {x a : Int} (hx : Fit x) (ha : Fit a) (hn : n < 1000) : ∃ w', (Instr.mapUpdate 44 (.map (some b)) (.int .i64 x) (.int .i64 a)).run Try.prog w = .ok () w' ∧ DueM w' b (n + 1) ((a, x) :: lessId m x) ∧ w.grownBy w' (some b) := by
  obtain ⟨D, hD, hf⟩ := h
  obtain ⟨w', hrun, h1, h2⟩ := hD.update Try.lawI64 Try.underlying44 (by unfold maxLen; omega) (keyI64 hx) (plainElem_int Try.underlying2 (wf_of_fit ha))
  refine ⟨w', hrun, ⟨_, h1, fun y => ?_, fun t ht => ?_, ?_⟩, h2⟩
  · by_cases e : y = x
    · subst e
      rw [has_put_same hD.isMap (by trivial)]
      exact (decide_eq_true (hasId_iff.2 (by simp))).symm
    · rw [has_put_other (by intro e'; injection e' with _ e'; exact e e'), hf.has y, decide_eq_decide, hasId_iff, hasId_iff]
      unfold lessId
      simp only [List.map_cons, List.mem_cons, List.mem_map, List.mem_filter]
      constructor
      · rintro ⟨t, ht, e2⟩
        exact .inr ⟨t, ⟨ht, by rw [← e2] at e; simpa using e⟩, e2⟩
      · rintro (e2 | ⟨t, ht, e2⟩)
        · exact absurd e2 e
        · exact ⟨t, ht.1, e2⟩
  · rcases List.mem_cons.1 ht with rfl | ht
    · rw [atKey_put_same hD.isMap (by trivial)]
    · have h3 := List.mem_filter.1 ht
      have h4 : t.2 ≠ x := by simpa using h3.2
      rw [atKey_put_other (by intro e'; injection e' with _ e'; exact h4 e')]
      exact hf.at_ t h3.1
  · rw [size_put (hD.tidy Try.lawI64), hf.has x, hf.size, List.length_cons]
    by_cases e : hasId m x
    · rw [decide_eq_true e, if_pos rfl]
      obtain ⟨j, hj, hje⟩ := e
      have h1 := (erase_id hm hj hje).length_eq
      rw [List.length_eraseIdx, if_pos hj] at h1
      omega
    · rw [decide_eq_false e, lessId_none e]
      simp
theorem DueM.del (h : DueM w b n m) (hm : NoTwo m) {x : Int} (hx : Fit x) (ty : TypeId) : ∃ w', (Builtin.delete_ #[44, 2] ty #[.map (some b), .int .i64 x]).run Try.prog w = .ok (.tuple #[]) w' ∧ DueM w' b n (lessId m x) ∧ w.grownBy w' (some b) := by
  obtain ⟨D, hD, hf⟩ := h
  obtain ⟨w', hrun, h1, h2⟩ := hD.drop Try.lawI64 Try.underlying44 (keyI64 hx) ty
  refine ⟨w', hrun, ⟨_, h1, fun y => ?_, fun t ht => ?_, ?_⟩, h2.grown⟩
  · by_cases e : y = x
    · subst e
      rw [has_del_same]
      symm
      refine decide_eq_false (fun q => ?_)
      obtain ⟨t, ht, e2⟩ := List.mem_map.1 (hasId_iff.1 q)
      have := (List.mem_filter.1 ht).2
      simp [e2] at this
    · rw [has_del_other (by intro e'; injection e' with _ e'; exact e e'), hf.has y, decide_eq_decide, hasId_iff, hasId_iff]
      unfold lessId
      simp only [List.mem_map, List.mem_filter]
      constructor
      · rintro ⟨t, ht, e2⟩
        exact ⟨t, ⟨ht, by rw [← e2] at e; simpa using e⟩, e2⟩
      · rintro ⟨t, ht, e2⟩
        exact ⟨t, ht.1, e2⟩
  · have h3 := List.mem_filter.1 ht
    have h4 : t.2 ≠ x := by simpa using h3.2
    rw [atKey_del_other (by intro e'; injection e' with _ e'; exact h4 e')]
    exact hf.at_ t h3.1
  · have hs := size_del (k := .int .i64 x) (hD.tidy Try.lawI64)
    rw [hf.has x, hf.size] at hs
    by_cases e : hasId m x
    · rw [decide_eq_true e, if_pos rfl] at hs
      obtain ⟨j, hj, hje⟩ := e
      have h1 := (erase_id hm hj hje).length_eq
      rw [List.length_eraseIdx, if_pos hj] at h1
      omega
    · rw [decide_eq_false e, if_neg (by decide)] at hs
      rw [lessId_none e]
      omega
theorem DueM.len (h : DueM w b n m) : (Builtin.len_ #[44] 3 #[.map (some b)]).run Try.prog w = .ok (.int .i64 (m.length : Nat)) w := by
  obtain ⟨D, hD, hf⟩ := h
  have := hD.len (ty := 3) Try.underlying44
  rw [hf.size] at this
  exact this
end

/-- What is left of a heap and of the timers that are due, when j of them came. -/
def leftS (ds r : List Tm) (j : Nat) : List Tm := ds.drop j ++ r
def lastT (ds : List Tm) (j : Nat) : Tm := if j = 0 then (-1, 0) else ith ds (j - 1)
def dueT (m : List Tm) (now : Int) : List Tm := (orderF m).filter (fun t => decide (t.1 ≤ now))
theorem due_map (m : List Tm) (now : Int) : dueL m now = (dueT m now).map (·.2) := rfl
theorem due_start (m : List Tm) (now : Int) : m.Perm (leftS (dueT m now) (leftL m now) 0) := by
  unfold leftS dueT leftL
  rw [List.drop_zero]
  exact ((((orderF_perm m).filter _).append_right _).trans (List.filter_append_perm _ m)).symm
theorem leftS_step {ds r : List Tm} {j : Nat} {x : Tm} (hj : j < ds.length) (hx : ith ds j = x) (hn : NoTwo (leftS ds r j)) : lessId (leftS ds r j) x.2 = leftS ds r (j + 1) ∧ x ∈ leftS ds r j := by
  unfold leftS at *
  rw [drop_ith hj, hx] at hn ⊢
  rw [List.cons_append] at hn ⊢
  refine ⟨?_, by simp⟩
  have hni : ¬ hasId (ds.drop (j + 1) ++ r) x.2 := by
    rw [hasId_iff]
    unfold NoTwo at hn
    rw [List.map_cons, List.nodup_cons] at hn
    exact hn.1
  exact lessId_cons hni
theorem noTwo_lessId {l : List Tm} (h : NoTwo l) (x : Int) : NoTwo (lessId l x) := by
  unfold NoTwo at *
  exact (List.Sublist.map _ List.filter_sublist).nodup h
theorem due_strict {m : List Tm} (h : heapOk m) (now : Int) {j : Nat} (hj : j < (dueT m now).length) : lessT (lastT (dueT m now) j) (ith (dueT m now) j) := by
  have hs : (dueT m now).Pairwise lessT := by
    have h1 : (orderF m).Pairwise lessT := List.pairwise_iff_getElem.2 (fun i k hi hk hik => by
      have := order_strict h hik hk
      rw [ith_get (by omega), ith_get hk] at this
      exact this)
    exact h1.filter _
  unfold lastT
  split
  · rename_i h0
    subst h0
    have hm : ith (dueT m now) 0 ∈ m := (orderF_perm m).mem_iff.1 (List.mem_filter.1 (show ith (dueT m now) 0 ∈ dueT m now by rw [ith_get hj]; exact List.getElem_mem hj)).1
    have := (h.may hm).1
    unfold lessT
    simp only
    omega
  · have := (List.pairwise_iff_getElem.1 hs) (j - 1) j (by omega) hj (by omega)
    rw [ith_get (by omega), ith_get hj]
    exact this
theorem due_le {m : List Tm} {now : Int} {j : Nat} (hj : j < (dueT m now).length) : (ith (dueT m now) j).1 ≤ now := by
  have : ith (dueT m now) j ∈ dueT m now := by rw [ith_get hj]; exact List.getElem_mem hj
  have := (List.mem_filter.1 this).2
  simpa using this
theorem left_late {m : List Tm} {now : Int} {t : Tm} (h : t ∈ leftL m now) : ¬ t.1 ≤ now := by
  have := (List.mem_filter.1 h).2
  simpa using this

end Go.Proofs.Ytjamoafihmcmeaa

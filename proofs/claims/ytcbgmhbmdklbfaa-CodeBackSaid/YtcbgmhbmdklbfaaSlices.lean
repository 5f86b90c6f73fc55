/-
  Rows of programs that the call has made itself: what is appended onto them, and stored into them. Over no program.
-/
import Derived.Test.YtcbgmhbmdklbfaaMath
import Derived.Test.YtcbgmhbmdklbfaaKit
namespace Go.Proofs.Ytcbgmhbmdklbfaa
open Go.RowKit

theorem Prog.apart {w : World} {A : Option Addr} {n c : Nat} {p : List I3} (h : Prog w A n c p) {q : Addr} {v : Value} (hc : w.cell? q = some v) (hv : ∀ z, v ≠ .int .i64 z) (u : Value) : Prog (w.setCell q u) A n c p :=
  ⟨h.1, h.2.1, h.2.2.1, fun hn => by
    obtain ⟨b, o, e, hb, hcell⟩ := h.2.2.2 hn
    have key : ∀ (k : Nat) (z : Int), w.cell? ⟨b, k, none⟩ = some (.int .i64 z) → (w.setCell q u).cell? ⟨b, k, none⟩ = some (.int .i64 z) := fun k z hk => by
      refine (World.cell?_setCell_other w _ _ _ ?_).trans hk
      rintro rfl
      rw [hk] at hc
      injection hc with hc
      exact hv _ hc.symm
    refine ⟨b, o, e, by simpa [World.setCell] using hb, fun j hj => ?_⟩
    obtain ⟨h0, h1, h2⟩ := hcell j hj
    exact ⟨key _ _ h0, key _ _ h1, key _ _ h2⟩⟩

theorem OwnS.at_ {E : TypeId} {w : World} {base g : Nat} {c : Nat} {l : List (List I3)} (h : OwnS E w base (some ⟨g, 0, none⟩) c l) {k : Nat} (hk : k < l.length) :
    ∃ B m d, w.cell? ⟨g, k, none⟩ = some (.slice B m d) ∧ w.frozen? ⟨g, k, none⟩ = false ∧ Prog w B m d (pth l k) := by
  obtain ⟨_, hs, hr, hrow⟩ := h
  have hk' : k < hs.length := by rw [hr.1]; exact hk
  refine ⟨(hth hs k).1, (hth hs k).2.1, (hth hs k).2.2, ?_, hrow.frozenAt k, hr.2 k hk⟩
  rw [hrow.cellAt k (by omega)]
  simp [hk', hth_get hk', hv]

theorem hth_set (hs : List Hd) (j k : Nat) (x : Hd) (h : j < hs.length) : hth (hs.set k x) j = if k = j then x else hth hs j := by
  rw [hth_get (by simpa using h), List.getElem_set, hth_get h]
theorem pth_set (l : List (List I3)) (j k : Nat) (x : List I3) (h : j < l.length) : pth (l.set k x) j = if k = j then x else pth l j := by
  rw [pth_get (by simpa using h), List.getElem_set, pth_get h]

theorem OwnS.set_ {E : TypeId} {w : World} {base g : Nat} {c : Nat} {l : List (List I3)} (h : OwnS E w base (some ⟨g, 0, none⟩) c l) {k : Nat} (hk : k < l.length) {B : Option Addr} {m d : Nat} {p : List I3} (hp : Prog w B m d p) :
    OwnS E (w.setCell ⟨g, k, none⟩ (.slice B m d)) base (some ⟨g, 0, none⟩) c (l.set k p) := by
  obtain ⟨B0, m0, d0, hc, _, _⟩ := h.at_ hk
  obtain ⟨hl, hs, hr, hrow⟩ := h
  refine ⟨by simpa using hl, hs.set k (B, m, d), ⟨by simpa using hr.1, fun j hj => ?_⟩, ?_⟩
  · have hj' : j < l.length := by simpa using hj
    rw [hth_set _ _ _ _ (by rw [hr.1]; exact hj'), pth_set _ _ _ _ hj']
    split
    · exact hp.apart hc (by simp) _
    · exact (hr.2 j hj').apart hc (by simp) _
  · have := (hrow.stored k (.slice B m d)).1
    simpa [List.map_set, hv] using this

theorem OwnS.block {E : TypeId} {w : World} {base : Nat} {A : Option Addr} {c : Nat} {l : List (List I3)} (h : OwnS E w base A c l) {n d : Nat} : ∀ k, (Value.slice A n d).ownBlock = some k → base ≤ k := by
  obtain ⟨_, hs, _, hrow⟩ := h
  intro k hk
  refine (hrow.lt k ?_).1
  cases A with
  | none => simp [Value.ownBlock] at hk
  | some ad => simpa [Value.ownBlock] using hk

theorem OwnS.form {E : TypeId} {w : World} {base : Nat} {A : Option Addr} {c : Nat} {l : List (List I3)} (h : OwnS E w base A c l) (hn : 0 < l.length) : ∃ g, A = some ⟨g, 0, none⟩ ∧ base ≤ g ∧ g < w.heap.size := by
  obtain ⟨_, hs, _, hrow⟩ := h
  rcases hrow.2 with ⟨h1, h2⟩ | ⟨g, cap, cur, e, hb, hh, _⟩
  · omega
  · injection e with e1 _ _
    subst e1
    exact ⟨g, rfl, hb, (Array.getElem?_eq_some_iff.1 hh).1⟩

/-- The cells of such a slice, by their number. -/
theorem prgs_src {w : World} {B : Option Addr} {m : Nat} {ys : List (List I3)} {hs : List Hd} (hl : ys.length = m) (hr : Rds w hs ys)
    (hc : 0 < m → ∃ b o, B = some ⟨b, o, none⟩ ∧ b < w.heap.size ∧ ∀ j, j < m → w.cell? ⟨b, o + j, none⟩ = some (hv (hth hs j))) {a : Addr} (e : B = some a) :
    ∀ j u, (hs.map hv)[j]? = some u → w.cell? (a.add j) = some u := by
  intro j u hu
  have hj : j < hs.length := by simpa using (List.getElem?_eq_some_iff.1 hu).1
  have hjm : j < m := by rw [← hl, ← hr.1]; exact hj
  obtain ⟨b, o, e', _, hcell⟩ := hc (by omega)
  rw [e'] at e
  injection e with e
  subst e
  rw [Addr.add_lit, hcell j hjm, hth_get hj]
  simpa [hj] using hu

theorem hv_one (hs : List Hd) : ∀ u ∈ hs.map hv, u.oneCell' = true := by
  intro u hu
  obtain ⟨h, _, rfl⟩ := List.mem_map.1 hu
  rfl

theorem Rds.append {w : World} {hs hs' : List Hd} {l l' : List (List I3)} (h : Rds w hs l) (h' : Rds w hs' l') : Rds w (hs ++ hs') (l ++ l') := by
  refine ⟨by simp [h.1, h'.1], fun j hj => ?_⟩
  rcases Nat.lt_or_ge j l.length with h1 | h1
  · have e1 : hth (hs ++ hs') j = hth hs j := by rw [hth_get (by simp [h.1]; omega), hth_get (by rw [h.1]; exact h1), List.getElem_append_left]
    have e2 : pth (l ++ l') j = pth l j := by rw [pth_get (by simp; omega), pth_get h1, List.getElem_append_left]
    rw [e1, e2]
    exact h.2 j h1
  · obtain ⟨i, rfl⟩ : ∃ i, j = l.length + i := ⟨j - l.length, by omega⟩
    have hi : i < l'.length := by simpa using hj
    have e1 : hth (hs ++ hs') (l.length + i) = hth hs' i := by rw [← h.1]; unfold hth List.getD; rw [List.getElem?_append_right (by omega), Nat.add_sub_cancel_left]
    have e2 : pth (l ++ l') (l.length + i) = pth l' i := by unfold pth List.getD; rw [List.getElem?_append_right (by omega), Nat.add_sub_cancel_left]
    rw [e1, e2]
    exact h'.2 i hi

theorem run_append_prgs {P : Program} (w : World) (t ty E : TypeId) (ht : P.underlying t = some (.slice E)) (hi : (P.info? E).map (fun i => (i.zero, i.size, i.bytes)) = some (some (.slice none 0 0), 1, 24))
    (base : Nat) (A : Option Addr) (c : Nat) (xs : List (List I3)) (hown : OwnS E w base A c xs) (B : Option Addr) (m d : Nat) (ys : List (List I3)) (hy : Prgs w B m ys)
    (hb : (xs.length + m) * 24 ≤ 140737488351232) (hbase : base ≤ w.heap.size) (hkeep : ∀ j, j < xs.length → ∀ w', w.grownBy w' (Value.slice A xs.length c).ownBlock → ∀ hs : Hd, Prog w hs.1 hs.2.1 hs.2.2 (pth xs j) → Prog w' hs.1 hs.2.1 hs.2.2 (pth xs j))
    (hkeepY : ∀ j, j < m → ∀ w', w.grownBy w' (Value.slice A xs.length c).ownBlock → ∀ hs : Hd, Prog w hs.1 hs.2.1 hs.2.2 (pth ys j) → Prog w' hs.1 hs.2.1 hs.2.2 (pth ys j)) :
    ∃ A' c' w', (Builtin.append_ #[t, t] ty #[.slice A xs.length c, .slice B m d]).run P w = .ok (.slice A' (xs ++ ys).length c') w' ∧ OwnS E w' base A' c' (xs ++ ys) ∧ w.grownBy w' (Value.slice A xs.length c).ownBlock := by
  obtain ⟨i, hi, hz0, hz1, hz2⟩ := info_parts hi
  obtain ⟨hl, hs, hr, hrow⟩ := hown
  obtain ⟨ly, by_, hs', hr', hc'⟩ := id hy
  cases B with
  | none =>
    have hm : m = 0 := by
      rcases Nat.eq_zero_or_pos m with h | h
      · exact h
      · obtain ⟨b, o, e, _⟩ := hc' h
        cases e
    subst hm
    obtain rfl : ys = [] := List.eq_nil_of_length_eq_zero ly
    refine ⟨A, c, w, ?_, ?_, World.grownBy.refl _ _⟩
    · simpa using run_append_none w base t ty E i 1 ht hi _ _ _ hrow d
    · rw [List.append_nil]; exact ⟨hl, hs, hr, hrow⟩
  | some ad =>
    obtain ⟨v', w', hrun, h2, h3, _⟩ := run_append_own_at (P := P) w base t ty E i (.slice none 0 0) 1 24 ht hi hz0 hz1 hz2 rfl (by decide) _ _ _ hrow ad m d (hs'.map hv) (by simp [hr'.1, ly]) (prgs_src ly hr' hc' rfl) (hv_one hs')
      (by unfold maxLen; omega) (by omega) hbase
    have e : ∃ A' c', v' = .slice A' (xs ++ ys).length c' := by
      rcases h2.2 with ⟨rfl, h0⟩ | ⟨g, cap, cur, rfl, _⟩
      · exact ⟨none, 0, by rw [List.length_append, ly, h0]⟩
      · exact ⟨_, cap, by rw [List.length_append, ly]⟩
    obtain ⟨A', c', rfl⟩ := e
    have hra : Rds w' hs xs := ⟨hr.1, fun j hj => hkeep j hj w' h3 _ (hr.2 j hj)⟩
    have hrb : Rds w' hs' ys := ⟨hr'.1, fun j hj => hkeepY j (by omega) w' h3 _ (hr'.2 j hj)⟩
    refine ⟨A', c', w', hrun, ⟨by rw [List.length_append]; omega, hs ++ hs', hra.append hrb, ?_⟩, h3⟩
    rw [List.map_append]
    simpa [ly] using h2

/-- append onto nil: a copy of a slice of programs, at the operation. -/
theorem wpList_copy_prgs {P : Program} (w : World) {ops : Array Oper} {rest : List Oper} {o : Oper} {a : Act} {Q : Exit → Act → World → Prop} (hgd : o.guard = none) (s x : Operand) (t : TypeId)
    (ho : o.op = .call { callee := .builtin .append, args := #[s, x], argTypes := #[t, t] })
    (E : TypeId) (ht : P.underlying t = some (.slice E)) (hi : (P.info? E).map (fun i => (i.zero, i.size, i.bytes)) = some (some (.slice none 0 0), 1, 24))
    (hs : a.eval s = .slice none 0 0) (B : Option Addr) (m d : Nat) (ys : List (List I3)) (hx : a.eval x = .slice B m d) (hy : Prgs w B m ys)
    (hb : m * 24 ≤ 140737488351232)
    (h : ∀ A' c' w', OwnS E w' w.heap.size A' c' ys → Below w.heap.size w w' → wpList P ops Q rest (a.put o.dst (.slice A' m c')) w') :
    wpList P ops Q (o :: rest) a w := by
  refine wpList_plain hgd fun K hK => ?_
  have hkp : ∀ (p : List I3) w', w.grownBy w' (Value.slice none 0 0).ownBlock → ∀ hs : Hd, Prog w hs.1 hs.2.1 hs.2.2 p → Prog w' hs.1 hs.2.1 hs.2.2 p := fun p w' hg hs hp => hp.below ((Below.refl _ _).grown hg (Nat.le_refl _) (by simp [Value.ownBlock]))
  obtain ⟨A', c', w', hr, h2, h3⟩ := run_append_prgs (P := P) w t o.type E ht hi w.heap.size none 0 [] (OwnS.nil_ _ _ _) B m d ys hy (by simpa using hb) (Nat.le_refl _) (fun j hj => by simp at hj) (fun j _ => hkp _)
  rw [List.nil_append] at hr h2
  rw [hy.1] at hr
  unfold Oper.wp execOp
  simp only [ho, resolve, invoke, builtin, Sem.run_bind, Sem.run_pure, Result.andThen_ok, List.map_toArray, List.map_cons, List.map_nil, hs, hx]
  rw [show ([] : List (List I3)).length = 0 from rfl] at hr h3
  rw [hr]
  exact hK _ _ (h A' c' w' h2 ((Below.refl _ _).grown h3 (Nat.le_refl _) (by simp [Value.ownBlock])))

/-! ### What stands behind the exit is struck, and something else put there -/

def cutP (more : List I3) : List I3 → List I3
  | [] => []
  | x :: p => if x.1 = 9 then x :: more else x :: cutP more p

theorem cut_exit {more p : List I3} : ∀ {k : Nat}, k < p.length → (∀ j, j < k → jO p j ≠ 9) → jO p k = 9 → cutP more p = p.take (k + 1) ++ more := by
  induction p with
  | nil => intro k h; simp at h
  | cons x p ih =>
    intro k hk h0 h1
    match k with
    | 0 => simp only [cutP]; rw [if_pos (show x.1 = 9 from h1)]; rfl
    | k + 1 =>
      simp only [cutP]
      rw [if_neg (show ¬ x.1 = 9 from h0 0 (by omega)), ih (k := k) (by simpa using hk) (fun j hj => h0 (j + 1) (by omega)) h1]
      rfl

theorem cut_none {more p : List I3} (h : ∀ j, j < p.length → jO p j ≠ 9) : cutP more p = p := by
  induction p with
  | nil => rfl
  | cons x p ih =>
    simp only [cutP]
    rw [if_neg (show ¬ x.1 = 9 from h 0 (by simp)), ih (fun j hj => h (j + 1) (by simpa using hj))]

theorem cut_run (more p : List I3) : runLen (cutP more p) = runLen p ∧ ∀ j, j < runLen p → ith (cutP more p) j = ith p j := by
  induction p with
  | nil => exact ⟨rfl, fun j hj => rfl⟩
  | cons x p ih =>
    simp only [cutP]
    by_cases hx : x.1 = 9
    · rw [if_pos hx]
      simp only [runLen]
      rw [if_pos hx, if_pos hx]
      exact ⟨rfl, fun j hj => by obtain rfl : j = 0 := by omega
                                 rfl⟩
    · rw [if_neg hx]
      simp only [runLen]
      rw [if_neg hx, if_neg hx, ih.1]
      refine ⟨rfl, fun j hj => ?_⟩
      match j with
      | 0 => rfl
      | j + 1 => exact ih.2 j (by omega)

theorem kids_congr {g g' : Nat → Option Nat} {p p' : List I3} (hg : ∀ a, g a = g' a) : ∀ {k : Nat}, (∀ j, j < k → ith p j = ith p' j) → kidsK g p k = kidsK g' p' k := by
  intro k
  induction k with
  | zero => intro _; rfl
  | succ k ih =>
    intro h
    rw [kidsK, kidsK, ih (fun j hj => h j (by omega))]
    unfold jO jA
    rw [h k (by omega)]
    simp only [hg]

theorem units_congr {p p' : List I3} : ∀ {k : Nat}, (∀ j, j < k → ith p j = ith p' j) → unitsK p k = unitsK p' k := by
  intro k
  induction k with
  | zero => intro _; rfl
  | succ k ih =>
    intro h
    rw [unitsK, unitsK, ih (fun j hj => h j (by omega))]
    unfold jO jA
    rw [h k (by omega)]

def cutL (more : List I3) (l : List (List I3)) : List (List I3) := l.map (cutP more)

theorem cutL_at (more : List I3) (l : List (List I3)) (i : Nat) : pth (cutL more l) i = cutP more (pth l i) := by
  unfold pth cutL List.getD
  rw [List.getElem?_map]
  cases l[i]? <;> rfl

theorem cut_cnt (more : List I3) (l : List (List I3)) : ∀ f i, cnt (cutL more l) f i = cnt l f i := by
  intro f
  induction f with
  | zero => intro i; rfl
  | succ f ih =>
    intro i
    rw [cnt, cnt, cutL_at, (cut_run more (pth l i)).1]
    exact kids_congr ih (cut_run more (pth l i)).2

theorem cut_tot (more : List I3) (l : List (List I3)) (i : Nat) : tot (cutL more l) i = tot l i := by
  unfold tot
  rw [cut_cnt]
  simp [cutL]

theorem cut_units (more p : List I3) : units (cutP more p) = units p := by
  unfold units
  rw [(cut_run more p).1]
  exact units_congr (cut_run more p).2

/-- The first k are cut. -/
def cutK (more : List I3) (l : List (List I3)) (k : Nat) : List (List I3) := (l.take k).map (cutP more) ++ l.drop k

theorem cutK_zero (more : List I3) (l : List (List I3)) : cutK more l 0 = l := by simp [cutK]
theorem cutK_all (more : List I3) (l : List (List I3)) : cutK more l l.length = cutL more l := by simp [cutK, cutL]
theorem cutK_len (more : List I3) (l : List (List I3)) (k : Nat) : (cutK more l k).length = l.length := by simp [cutK]; omega
theorem cutK_at (more : List I3) (l : List (List I3)) {k j : Nat} (hj : j < l.length) : pth (cutK more l k) j = if j < k then cutP more (pth l j) else pth l j := by
  unfold pth cutK List.getD
  split
  · rename_i h
    rw [List.getElem?_append_left (by simp; omega)]
    simp [h, hj]
  · rename_i h
    rw [List.getElem?_append_right (by simp; omega)]
    have e : j - ((l.take k).map (cutP more)).length = j - k := by simp; omega
    rw [e, List.getElem?_drop, show k + (j - k) = j by omega]
theorem ext_pth {l l' : List (List I3)} (hl : l.length = l'.length) (h : ∀ j, j < l.length → pth l j = pth l' j) : l = l' := by
  refine List.ext_getElem hl fun i h1 h2 => ?_
  have := h i h1
  rwa [pth_get h1, pth_get h2] at this
theorem cutK_set (more : List I3) (l : List (List I3)) {k : Nat} {p : List I3} (hp : p = cutP more (pth l k)) : (cutK more l k).set k p = cutK more l (k + 1) := by
  refine ext_pth (by simp [cutK_len]) fun j hj => ?_
  have hj' : j < l.length := by simpa [cutK_len] using hj
  rw [pth_set _ _ _ _ (by rw [cutK_len]; exact hj'), cutK_at more l hj', cutK_at more l hj']
  split
  · rename_i e
    subst e
    rw [if_pos (by omega)]
    exact hp
  · rename_i e
    by_cases h : j < k
    · rw [if_pos h, if_pos (by omega)]
    · rw [if_neg h, if_neg (by omega)]
theorem cutK_stays (more : List I3) (l : List (List I3)) {k : Nat} (hk : k < l.length) (hp : cutP more (pth l k) = pth l k) : cutK more l k = cutK more l (k + 1) := by
  refine ext_pth (by simp [cutK_len]) fun j hj => ?_
  have hj' : j < l.length := by simpa [cutK_len] using hj
  rw [cutK_at more l hj', cutK_at more l hj']
  by_cases h : j < k
  · rw [if_pos h, if_pos (by omega)]
  · rw [if_neg h]
    by_cases e : j = k
    · subst e
      rw [if_pos (by omega), hp]
    · rw [if_neg (by omega)]

end Go.Proofs.Ytcbgmhbmdklbfaa

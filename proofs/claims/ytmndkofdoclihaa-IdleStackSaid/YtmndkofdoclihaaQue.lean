/-
  A row of numbers of the call's own, FROM WHATEVER PLACE OF ITS BLOCK ON (what 'q = q[1:]' leaves): kept, cut at its head, appended onto. Over no program.
-/
import Derived.Test.YtmndkofdoclihaaKit
import Derived.ArgAppend
import Derived.Deep.MidRow
import Derived.Deep.Upon
namespace Go.Proofs.Ytmndkofdoclihaa
open Go.RowKit

/-- The row. -/
def OwnQ (E : TypeId) (w : World) (base : Nat) (A : Option Addr) (c : Nat) (zs : List Int) : Prop :=
  zs.length * 8 ≤ 140737488351232 ∧ (∀ z ∈ zs, Fit z) ∧
    ((A = none ∧ zs = [] ∧ c = 0) ∨ ∃ g o cs, A = some ⟨g, o, none⟩ ∧ base ≤ g ∧ Bk w g E cs ∧ zs.length ≤ c ∧ c ≤ maxLen ∧ o + c ≤ cs.size ∧ ∀ j, j < zs.length → w.cell? ⟨g, o + j, none⟩ = some (.int .i64 (nth zs j)))

section
variable {E : TypeId} {w w' : World} {base : Nat} {A : Option Addr} {c : Nat} {zs : List Int}
theorem OwnI.que (h : OwnI E w base A c zs) : OwnQ E w base A c zs := by
  refine ⟨h.1, h.2.1, ?_⟩
  have hi := h.ints
  rcases h.2.2.2 with ⟨e, h0⟩ | ⟨g, cap, cur, e, hb, hh, hc, hm, hs, -⟩
  · injection e with e1 _ e3
    exact .inl ⟨e1, List.eq_nil_of_length_eq_zero h0, e3⟩
  · injection e with e1 e2 e3
    subst e1 e3
    refine .inr ⟨g, 0, cur, rfl, hb, hh, hc, hm, by omega, fun j hj => ?_⟩
    rw [Nat.zero_add]
    exact (h.at_ hj).1

theorem OwnQ.ints (h : OwnQ E w base A c zs) : Ints w A zs.length zs := by
  refine ⟨rfl, h.1, h.2.1, fun hn => ?_⟩
  rcases h.2.2 with ⟨_, e, _⟩ | ⟨g, o, cs, e, _, hk, _, _, _, hc⟩
  · rw [e] at hn; simp at hn
  · exact ⟨g, o, e, hk.lt, hc⟩
theorem OwnQ.nil_ (E : TypeId) (w : World) (base : Nat) : OwnQ E w base none 0 [] := ⟨by simp, by simp, .inl ⟨rfl, rfl, rfl⟩⟩
theorem OwnQ.form (h : OwnQ E w base A c zs) (hn : 0 < zs.length) : ∃ g o, A = some ⟨g, o, none⟩ ∧ base ≤ g ∧ g < w.heap.size ∧ zs.length ≤ c ∧ c ≤ maxLen := by
  rcases h.2.2 with ⟨_, e, _⟩ | ⟨g, o, cs, e, hb, hk, hc, hm, _, _⟩
  · rw [e] at hn; simp at hn
  · exact ⟨g, o, e, hb, hk.lt, hc, hm⟩
theorem OwnQ.block (h : OwnQ E w base A c zs) {n d : Nat} : ∀ k, (Value.slice A n d).ownBlock = some k → base ≤ k ∧ k < w.heap.size := by
  intro k hk
  rcases h.2.2 with ⟨e, _⟩ | ⟨g, o, cs, e, hb, hbk, _⟩
  · subst e; simp [Value.ownBlock] at hk
  · subst e; simp [Value.ownBlock] at hk; subst hk; exact ⟨hb, hbk.lt⟩
/-- Such a row's block holds cells of its own type. -/
theorem OwnQ.type (h : OwnQ E w base A c zs) {n d k : Nat} (hk : (Value.slice A n d).ownBlock = some k) : ∃ cs, Bk w k E cs := by
  rcases h.2.2 with ⟨e, _⟩ | ⟨g, o, cs, e, hb, hbk, _⟩
  · subst e; simp [Value.ownBlock] at hk
  · subst e; simp [Value.ownBlock] at hk; subst hk; exact ⟨cs, hbk⟩
theorem OwnQ.grown (h : OwnQ E w base A c zs) {row : Option Nat} (hg : w.grownBy w' row) (hne : (Value.slice A 0 0).ownBlock = none ∨ (Value.slice A 0 0).ownBlock ≠ row) : OwnQ E w' base A c zs := by
  refine ⟨h.1, h.2.1, ?_⟩
  rcases h.2.2 with h0 | ⟨g, o, cs, e, hb, hbk, h1, h2, h3, h4⟩
  · exact .inl h0
  · subst e
    have hr : some g ≠ row := by
      rcases hne with e | e
      · simp [Value.ownBlock] at e
      · simpa [Value.ownBlock] using e
    have hk := hbk.grown hg hr
    refine .inr ⟨g, o, cs, rfl, hb, hk, h1, h2, h3, fun j hj => ?_⟩
    rw [hk.cell, ← hbk.cell]
    exact h4 j hj
theorem OwnQ.below (h : OwnQ E w base A c zs) (hb : Below w.heap.size w w') : OwnQ E w' base A c zs :=
  h.grown (row := none) ⟨hb.os, hb.tape, hb.output, hb.size, fun k hk _ => hb.block k hk⟩ (by cases (Value.slice A 0 0).ownBlock <;> simp)
theorem OwnQ.base_ {base' : Nat} (h : OwnQ E w base A c zs) (hb : base' ≤ base) : OwnQ E w base' A c zs := by
  refine ⟨h.1, h.2.1, ?_⟩
  rcases h.2.2 with h0 | ⟨g, o, cs, e, hb', r⟩
  · exact .inl h0
  · exact .inr ⟨g, o, cs, e, by omega, r⟩
theorem OwnQ.setOther (h : OwnQ E w base A c zs) {p : Addr} (hp : (Value.slice A 0 0).ownBlock = none ∨ (Value.slice A 0 0).ownBlock ≠ some p.block) (u : Value) : OwnQ E (w.setCell p u) base A c zs :=
  h.grown (row := some p.block) ⟨rfl, rfl, rfl, by simp [World.setCell], fun k _ hne => Below.heap_setCell w _ u k (by intro e; exact hne (by rw [e]))⟩ hp

theorem nth_drop1 (zs : List Int) (j : Nat) : nth (zs.drop 1) j = nth zs (j + 1) := by
  simp [nth, List.getD]

/-- 'q[1:]' (where the capacity is used up the address stays). -/
theorem OwnQ.tail {g o o' : Nat} (h : OwnQ E w base (some ⟨g, o, none⟩) c zs) (hz : 0 < zs.length) (ho : o' = o + 1 ∨ (c = 1 ∧ o' = o)) : OwnQ E w base (some ⟨g, o', none⟩) (c - 1) (zs.drop 1) := by
  refine ⟨by have := h.1; simp; omega, fun z hz => h.2.1 z (List.mem_of_mem_drop hz), .inr ?_⟩
  rcases h.2.2 with ⟨e, _⟩ | ⟨g', o2, cs, e, hb, hbk, h1, h2, h3, h4⟩
  · cases e
  · injection e with e
    injection e with e1 e2
    subst e1 e2
    refine ⟨g, o', cs, rfl, hb, hbk, by simp; omega, by omega, by omega, fun j hj => ?_⟩
    have hj' : j + 1 < zs.length := by simp at hj; omega
    have := h4 (j + 1) hj'
    rw [nth_drop1]
    rcases ho with rfl | ⟨hc, rfl⟩
    · rw [show o + 1 + j = o + (j + 1) by omega]; exact this
    · omega
end

theorem bk_setCells {g : Nat} {t : TypeId} : ∀ (vs : List Value) (o : Nat) (w : World) (cs : Array Value), Bk w g t cs → ∃ cs', Bk (w.setCells g o vs) g t cs' ∧ cs'.size = cs.size
  | [], _, _, cs, h => ⟨cs, h, rfl⟩
  | v :: vs, o, w, cs, h => by
    obtain ⟨cs', h1, h2⟩ := bk_setCells vs (o + 1) _ _ (h.set_ o v)
    exact ⟨cs', h1, by rw [h2]; simp⟩

theorem grown_setCells (w : World) (g o : Nat) (vs : List Value) : w.grownBy (w.setCells g o vs) (some g) := by
  induction vs generalizing w o with
  | nil => exact World.grownBy.refl _ _
  | cons v vs ih => exact (grown_set (w := w) (g := g) (i := o) v).trans (ih _ _)

/-- append onto such a row, whatever slice comes behind: in place where there is room, else in a new block. -/
theorem run_append_que {P : Program} (w : World) (t ty E : TypeId) (ht : P.underlying t = some (.slice E)) (hi : (P.info? E).map (fun i => (i.zero, i.size, i.bytes)) = some (some (.int .i64 0), 1, 8))
    (base : Nat) (A : Option Addr) (c : Nat) (xs : List Int) (hown : OwnQ E w base A c xs) (B : Option Addr) (m d : Nat) (ys : List Int) (hy : Ints w B m ys)
    (hb : (xs.length + m) * 8 ≤ 140737488351232) (hbase : base ≤ w.heap.size) :
    ∃ A' c' w', (Builtin.append_ #[t, t] ty #[.slice A xs.length c, .slice B m d]).run P w = .ok (.slice A' (xs ++ ys).length c') w' ∧ OwnQ E w' base A' c' (xs ++ ys) ∧ w.grownBy w' (Value.slice A xs.length c).ownBlock ∧
      ∀ k, (Value.slice A' 0 0).ownBlock = some k → (Value.slice A 0 0).ownBlock = some k ∨ w.heap.size ≤ k := by
  have hy0 := hy
  obtain ⟨ly, by_, fy, _⟩ := hy0
  have hff : ∀ z ∈ xs ++ ys, Fit z := fun z hz => (List.mem_append.1 hz).elim (hown.2.1 z) (fy z)
  have hlen : (xs ++ ys).length = xs.length + m := by rw [List.length_append, ly]
  rcases hown.2.2 with ⟨e, e0, ec⟩ | ⟨g, o, cs, e, hbg, hbk, h1, h2, h3, h4⟩
  · subst e e0 ec
    obtain ⟨i, hi', hz0, hz1, hz2⟩ := info_parts hi
    cases B with
    | none =>
      obtain ⟨v', w', hr, A', c', rfl, h2, h3⟩ := run_append_ints (P := P) w t ty E ht hi base none 0 [] (OwnI.nil_ _ _ _) none m d ys hy hb hbase
      have hm : ys = [] := by
        rcases Nat.eq_zero_or_pos m with h | h
        · exact List.eq_nil_of_length_eq_zero (by omega)
        · obtain ⟨b, o, e, _⟩ := hy.2.2.2 h; cases e
      subst hm
      refine ⟨A', c', w', hr, h2.que, h3, fun k hk => ?_⟩
      rcases h2.2.2.2 with ⟨e, _⟩ | ⟨g, cap, cur, e, hb', hh, hc, hm', hs, _⟩
      · injection e with e _ _; subst e; simp [Value.ownBlock] at hk
      · have := run_append_nothing (P := P) w base t ty E i ht hi' (.slice none 0 0) 0 [] (World.ownsRow_nil w base E 1) d
        obtain rfl : m = 0 := by simpa using ly.symm
        rw [show ([] : List Int).length = 0 from rfl] at hr
        rw [this] at hr
        injection hr with hr _
        injection hr with hr _ _
        subst hr
        simp [Value.ownBlock] at hk
    | some ad =>
      obtain ⟨v', w', hr, h2, h3, _, hat⟩ := run_append_own_at (P := P) w base t ty E i (.int .i64 0) 1 8 ht hi' hz0 hz1 hz2 rfl (by decide) (.slice none 0 0) 0 [] (World.ownsRow_nil w base E 1) ad m d (ys.map (Value.int .i64)) (by simp [ly]) (hy.append_src rfl) (ints_oneCell .i64 ys)
        (by unfold maxLen; simp at hb; omega) (by simp at hb ⊢; omega) hbase
      have e : ∃ A' c', v' = .slice A' ([] ++ ys).length c' := by
        rcases h2.2 with ⟨rfl, h0⟩ | ⟨g, cap, cur, rfl, _⟩
        · exact ⟨none, 0, by rw [List.nil_append, ly]; simpa using h0.symm⟩
        · exact ⟨_, cap, by rw [List.nil_append, ly, Nat.zero_add]⟩
      obtain ⟨A', c', rfl⟩ := e
      have hI : OwnI E w' base A' c' ([] ++ ys) := ⟨by rw [List.nil_append, ly]; exact by_, hff, by simpa [ly] using h2⟩
      refine ⟨A', c', w', hr, hI.que, by simpa using h3, fun k hk => ?_⟩
      right
      rcases hat with e | e
      · cases A' with
        | none => simp [Value.ownBlock] at hk
        | some a => simp [Value.ownBlock] at e
      · cases A' with
        | none => simp [Value.ownBlock] at hk
        | some a => simp [Value.ownBlock] at e hk; omega
  · subst e
    obtain ⟨i, hi', hz0, hz1, hz2⟩ := info_parts hi
    cases B with
    | none =>
      have hm : m = 0 := by
        rcases Nat.eq_zero_or_pos m with h | h
        · exact h
        · obtain ⟨b, o, e, _⟩ := hy.2.2.2 h; cases e
      subst hm
      obtain rfl : ys = [] := List.eq_nil_of_length_eq_zero ly
      refine ⟨some ⟨g, o, none⟩, c, w, ?_, by rwa [List.append_nil], World.grownBy.refl _ _, fun k hk => .inl hk⟩
      simp [Builtin.append_, run_underlying ht, sizeOf, typeInfo, hi', Builtin.lenOf, Builtin.firstCells, h1, storeCells]
    | some ad =>
      by_cases hroom : xs.length + m ≤ c
      · have hsz := hz1
        have hr := run_append_room_cells (P := P) (w := w) t ty E i ht hi' g o xs.length c ad m d (ys.map (Value.int .i64)) (by simp [ly, hz1]) (hy.append_src rfl) (ints_oneCell .i64 ys) hroom
          (fun j hj => by
            have hj' : j < m := by simpa [ly] using hj
            rw [hz1, Nat.mul_one, hbk.cell]
            simp
            omega) (fun j _ => hbk.frozen _)
        rw [hz1, Nat.mul_one] at hr
        obtain ⟨cs', hbk', hs'⟩ := bk_setCells (ys.map (Value.int .i64)) (o + xs.length) w cs hbk
        refine ⟨some ⟨g, o, none⟩, c, w.setCells g (o + xs.length) (ys.map (Value.int .i64)), by rw [hlen]; exact hr, ⟨by rw [hlen]; exact hb, hff, .inr ⟨g, o, cs', rfl, hbg, hbk', by rw [hlen]; exact hroom, h2, by rw [hs']; exact h3, fun j hj => ?_⟩⟩, grown_setCells _ _ _ _, fun k hk => .inl hk⟩
        rcases Nat.lt_or_ge j xs.length with hjx | hjx
        · rw [World.cell?_setCells_out g _ _ _ _ (fun _ _ => .inl (by simp; omega)), h4 j hjx]
          congr 2
          rw [nth_get hjx, nth_get (by rw [List.length_append]; omega), List.getElem_append_left]
        · obtain ⟨q, rfl⟩ : ∃ q, j = xs.length + q := ⟨j - xs.length, by omega⟩
          have hq : q < ys.length := by rw [hlen] at hj; omega
          have := World.cell?_setCells_in g (ys.map (Value.int .i64)) (o + xs.length) w (fun j hj => by
            have hj' : j < m := by simpa [ly] using hj
            rw [hbk.cell]
            simp
            omega) q (by simpa using hq)
          rw [Nat.add_assoc] at this
          rw [this]
          simp
          rw [nth_get (by rw [List.length_append]; omega), List.getElem_append_right (by omega)]
          simp
      · have holds : ∀ j u, (xs.map (Value.int .i64))[j]? = some u → w.cell? ((⟨g, o, none⟩ : Addr).add j) = some u := hown.ints.append_src rfl
        obtain ⟨v', w', hr, h5, h6⟩ := run_append_arg_grows (P := P) (w := w) t ty E i (.int .i64 0) 1 8 ht hi' hz0 hz1 hz2 rfl (by decide) ⟨g, o, none⟩ xs.length c (xs.map (Value.int .i64)) (by simp) holds ad m d (ys.map (Value.int .i64)) (by simp [ly]) (hy.append_src rfl) (by omega) (by unfold maxLen; omega) (by omega)
        have e : ∃ A' c', v' = .slice A' (xs ++ ys).length c' := by
          rcases h5.2 with ⟨rfl, h0⟩ | ⟨g, cap, cur, rfl, _⟩
          · exact ⟨none, 0, by rw [hlen, h0]⟩
          · exact ⟨_, cap, by rw [hlen]⟩
        obtain ⟨A', c', rfl⟩ := e
        have hI : OwnI E w' w.heap.size A' c' (xs ++ ys) := ⟨by rw [hlen]; exact hb, hff, by simpa [ly] using h5⟩
        refine ⟨A', c', w', hr, (hI.que).base_ hbase, ⟨h6.os, h6.tape, h6.output, h6.size, fun k hk _ => h6.block k hk (by simp)⟩, fun k hk => .inr ?_⟩
        exact hI.block (n := 0) (d := 0) k hk

/-- append, at the operation. -/
theorem wpList_append_que {P : Program} (w : World) {ops : Array Oper} {rest : List Oper} {o : Oper} {a : Act} {Q : Exit → Act → World → Prop} (hgd : o.guard = none) (s x : Operand) (t : TypeId)
    (ho : o.op = .call { callee := .builtin .append, args := #[s, x], argTypes := #[t, t] })
    (E : TypeId) (ht : P.underlying t = some (.slice E)) (hi : (P.info? E).map (fun i => (i.zero, i.size, i.bytes)) = some (some (.int .i64 0), 1, 8))
    (base : Nat) (A : Option Addr) (c : Nat) (xs : List Int) (n : Nat) (hn : n = xs.length) (hs : a.eval s = .slice A n c) (hown : OwnQ E w base A c xs) (B : Option Addr) (m d : Nat) (ys : List Int) (hx : a.eval x = .slice B m d) (hy : Ints w B m ys)
    (hb : (xs.length + m) * 8 ≤ 140737488351232) (hbase : base ≤ w.heap.size)
    (h : ∀ A' c' w', OwnQ E w' base A' c' (xs ++ ys) → w.grownBy w' (Value.slice A n c).ownBlock → (∀ k, (Value.slice A' 0 0).ownBlock = some k → (Value.slice A 0 0).ownBlock = some k ∨ w.heap.size ≤ k) → wpList P ops Q rest (a.put o.dst (.slice A' (xs ++ ys).length c')) w') :
    wpList P ops Q (o :: rest) a w := by
  subst hn
  refine wpList_plain hgd fun K hK => ?_
  obtain ⟨A', c', w', hr, h2, h3, h4⟩ := run_append_que (P := P) w t o.type E ht hi base A c xs hown B m d ys hy hb hbase
  unfold Oper.wp execOp
  simp only [ho, resolve, invoke, builtin, Sem.run_bind, Sem.run_pure, Result.andThen_ok, List.map_toArray, List.map_cons, List.map_nil, hs, hx, hr]
  exact hK _ _ (h A' c' w' h2 h3 h4)

end Go.Proofs.Ytmndkofdoclihaa

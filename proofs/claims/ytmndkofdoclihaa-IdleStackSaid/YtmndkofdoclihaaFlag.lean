/-
  Plain words and lemmas for walks over slices of bools, over no program: a slice that reads as a list of bools, a row of bools of the call's own, append.
-/
import Derived.Test.YtmndkofdoclihaaOct
namespace Go.Proofs.Ytmndkofdoclihaa
open Go.RowKit

/-- A slice of bools reads as a list. -/
def Flags (w : World) (A : Option Addr) (n : Nat) (zs : List Bool) : Prop :=
  zs.length = n ∧ n ≤ 140737488351232 ∧ (0 < n → ∃ b o, A = some ⟨b, o, none⟩ ∧ b < w.heap.size ∧ ∀ j, j < n → w.cell? ⟨b, o + j, none⟩ = some (.bool (bth zs j)))

theorem bth_beyond {zs : List Bool} {j : Nat} (h : zs.length ≤ j) : bth zs j = false := by simp [bth, List.getD, List.getElem?_eq_none h]
theorem bth_set (zs : List Bool) (k j : Nat) (x : Bool) (h : j < zs.length) : bth (zs.set k x) j = if k = j then x else bth zs j := by
  rw [bth_get (by simpa using h), List.getElem_set, bth_get h]
theorem ext_bth {xs ys : List Bool} (hl : xs.length = ys.length) (h : ∀ j, j < xs.length → bth xs j = bth ys j) : xs = ys :=
  List.ext_getElem hl fun i h1 h2 => by
    have := h i h1
    rwa [bth_get h1, bth_get h2] at this

theorem Flags.below {w w' : World} {A : Option Addr} {n : Nat} {zs : List Bool} (h : Flags w A n zs) (hb : Below w.heap.size w w') : Flags w' A n zs :=
  ⟨h.1, h.2.1, fun hn => by
    obtain ⟨b, o, e, hlt, hc⟩ := h.2.2 hn
    exact ⟨b, o, e, Nat.lt_of_lt_of_le hlt hb.size, fun j hj => (hb.cell (p := ⟨b, o + j, none⟩) hlt).trans (hc j hj)⟩⟩

theorem Flags.nil_ (w : World) (A : Option Addr) : Flags w A 0 [] := ⟨rfl, by omega, fun h => by omega⟩

theorem Flags.append_src {w : World} {A : Option Addr} {n : Nat} {zs : List Bool} (h : Flags w A n zs) {a : Addr} (e : A = some a) :
    ∀ j u, (zs.map Value.bool)[j]? = some u → w.cell? (a.add j) = some u := by
  intro j u hu
  have hj : j < zs.length := by simpa using (List.getElem?_eq_some_iff.1 hu).1
  obtain ⟨b, o, e', _, hc⟩ := h.2.2 (by have := h.1; omega)
  rw [e'] at e
  injection e with e
  subst e
  rw [Addr.add_lit, hc j (by have := h.1; omega), bth_get hj]
  simpa [hj] using hu

theorem bools_oneCell (zs : List Bool) : ∀ u ∈ zs.map Value.bool, u.oneCell' = true := by
  intro u hu
  obtain ⟨z, _, rfl⟩ := List.mem_map.1 hu
  rfl

theorem OwnB.below {E : TypeId} {w w' : World} {base : Nat} {A : Option Addr} {c : Nat} {zs : List Bool} (h : OwnB E w base A c zs) (hb : Below w.heap.size w w') : OwnB E w' base A c zs :=
  World.ownsRow.kept h (row := none) ⟨hb.os, hb.tape, hb.output, hb.size, fun k hk _ => hb.block k hk⟩ (by cases (Value.slice A zs.length c).ownBlock <;> simp)

theorem OwnB.nil_ (E : TypeId) (w : World) (base : Nat) : OwnB E w base none 0 [] := World.ownsRow_nil w base E 1

theorem OwnB.form {E : TypeId} {w : World} {base : Nat} {A : Option Addr} {c : Nat} {zs : List Bool} (h : OwnB E w base A c zs) (hn : 0 < zs.length) :
    ∃ g, A = some ⟨g, 0, none⟩ ∧ base ≤ g ∧ g < w.heap.size ∧ zs.length ≤ c ∧ c ≤ maxLen := by
  rcases (show w.ownsRow base E 1 (.slice A zs.length c) zs.length (zs.map Value.bool) from h).2 with ⟨h1, h2⟩ | ⟨g, cap, cur, e, hb, hh, hc, hm, _⟩
  · omega
  · injection e with e1 e2 e3
    subst e1 e3
    exact ⟨g, rfl, hb, (Array.getElem?_eq_some_iff.1 hh).1, hc, hm⟩

theorem OwnB.block {E : TypeId} {w : World} {base : Nat} {A : Option Addr} {c : Nat} {zs : List Bool} (h : OwnB E w base A c zs) {n d : Nat} : ∀ k, (Value.slice A n d).ownBlock = some k → base ≤ k := by
  intro k hk
  refine (World.ownsRow.lt h k ?_).1
  cases A with
  | none => simp [Value.ownBlock] at hk
  | some ad => simpa [Value.ownBlock] using hk

theorem OwnB.flags {E : TypeId} {w : World} {base : Nat} {A : Option Addr} {c : Nat} {zs : List Bool} (h : OwnB E w base A c zs) (hl : zs.length ≤ 140737488351232) : Flags w A zs.length zs := by
  refine ⟨rfl, hl, fun hn => ?_⟩
  obtain ⟨g, rfl, _, hlt, _, _⟩ := h.form hn
  exact ⟨g, 0, rfl, hlt, fun j hj => by rw [Nat.zero_add]; exact (h.at_ hj).1⟩

theorem run_append_flags {P : Program} (w : World) (t ty E : TypeId) (ht : P.underlying t = some (.slice E)) (hi : (P.info? E).map (fun i => (i.zero, i.size, i.bytes)) = some (some (.bool false), 1, 1))
    (base : Nat) (A : Option Addr) (c : Nat) (xs : List Bool) (hown : OwnB E w base A c xs) (B : Option Addr) (m d : Nat) (ys : List Bool) (hy : Flags w B m ys)
    (hb : xs.length + m ≤ 140737488351232) (hbase : base ≤ w.heap.size) :
    ∃ A' c' w', (Builtin.append_ #[t, t] ty #[.slice A xs.length c, .slice B m d]).run P w = .ok (.slice A' (xs ++ ys).length c') w' ∧ OwnB E w' base A' c' (xs ++ ys) ∧ w.grownBy w' (Value.slice A xs.length c).ownBlock := by
  obtain ⟨i, hi, hz0, hz1, hz2⟩ := info_parts hi
  obtain ⟨ly, by_, _⟩ := id hy
  cases B with
  | none =>
    have hm : m = 0 := by
      rcases Nat.eq_zero_or_pos m with h | h
      · exact h
      · obtain ⟨b, o, e, _⟩ := hy.2.2 h
        cases e
    subst hm
    obtain rfl : ys = [] := List.eq_nil_of_length_eq_zero ly
    refine ⟨A, c, w, ?_, ?_, World.grownBy.refl _ _⟩
    · simpa using run_append_nothing w base t ty E i ht hi _ _ _ hown d
    · simpa using hown
  | some ad =>
    obtain ⟨v', w', hr, h2, h3, _⟩ := run_append_own_at (P := P) w base t ty E i (.bool false) 1 1 ht hi hz0 hz1 hz2 rfl (by decide) _ _ _ hown ad m d (ys.map Value.bool) (by simp [ly]) (hy.append_src rfl) (bools_oneCell ys)
      (by unfold maxLen; omega) (by omega) hbase
    have e : ∃ A' c', v' = .slice A' (xs ++ ys).length c' := by
      rcases h2.2 with ⟨rfl, h0⟩ | ⟨g, cap, cur, rfl, _⟩
      · exact ⟨none, 0, by rw [List.length_append, ly, h0]⟩
      · exact ⟨_, cap, by rw [List.length_append, ly]⟩
    obtain ⟨A', c', rfl⟩ := e
    refine ⟨A', c', w', hr, ?_, h3⟩
    unfold OwnB
    simpa [ly] using h2

/-- append, at the operation: onto a row of bools of the call's own, whatever slice comes behind. -/
theorem wpList_append_flags {P : Program} (w : World) {ops : Array Oper} {rest : List Oper} {o : Oper} {a : Act} {Q : Exit → Act → World → Prop} (hgd : o.guard = none) (s x : Operand) (t : TypeId)
    (ho : o.op = .call { callee := .builtin .append, args := #[s, x], argTypes := #[t, t] })
    (E : TypeId) (ht : P.underlying t = some (.slice E)) (hi : (P.info? E).map (fun i => (i.zero, i.size, i.bytes)) = some (some (.bool false), 1, 1))
    (base : Nat) (A : Option Addr) (c : Nat) (xs : List Bool) (n : Nat) (hn : n = xs.length) (hs : a.eval s = .slice A n c) (hown : OwnB E w base A c xs) (B : Option Addr) (m d : Nat) (ys : List Bool) (hx : a.eval x = .slice B m d) (hy : Flags w B m ys)
    (hb : xs.length + m ≤ 140737488351232) (hbase : base ≤ w.heap.size)
    (h : ∀ A' c' w', OwnB E w' base A' c' (xs ++ ys) → w.grownBy w' (Value.slice A n c).ownBlock → wpList P ops Q rest (a.put o.dst (.slice A' (xs ++ ys).length c')) w') :
    wpList P ops Q (o :: rest) a w := by
  subst hn
  refine wpList_plain hgd fun K hK => ?_
  obtain ⟨A', c', w', hr, h2, h3⟩ := run_append_flags (P := P) w t o.type E ht hi base A c xs hown B m d ys hy hb hbase
  unfold Oper.wp execOp
  simp only [ho, resolve, invoke, builtin, Sem.run_bind, Sem.run_pure, Result.andThen_ok, List.map_toArray, List.map_cons, List.map_nil, hs, hx, hr]
  exact hK _ _ (h A' c' w' h2 h3)

end Go.Proofs.Ytmndkofdoclihaa

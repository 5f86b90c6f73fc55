/-
  Plain words and lemmas for walks over slices of int64, over no program: a slice value that reads as a list of integers, a row of the call's own, how both are kept. Nothing here speaks of a translation.
-/
import Derived.WalkKit
import Derived.WalkLawsBesides
import Derived.ProofKit
import Derived.Maps.AppendAt
import Derived.Deep.AppendLies
import Derived.Lib.Hide
namespace Go.Proofs.Ytpfnoohcilefhaa
open Go.RowKit

/-- It goes into 64 bits. -/
def Fit (z : Int) : Prop := -9223372036854775808 ≤ z ∧ z ≤ 9223372036854775807

theorem wf_of_fit {z : Int} (h : Fit z) : (Lit.int .i64 z).wf = true := by
  have h1 : IntKind.i64.min = -9223372036854775808 := rfl
  have h2 : IntKind.i64.max = 9223372036854775807 := rfl
  obtain ⟨a, b⟩ := h
  simp only [Lit.wf, Bool.and_eq_true, decide_eq_true_eq]
  omega

theorem fit_of_wf {z : Int} (h : (Lit.int .i64 z).wf = true) : Fit z := by
  have h1 : IntKind.i64.min = -9223372036854775808 := rfl
  have h2 : IntKind.i64.max = 9223372036854775807 := rfl
  simp only [Lit.wf, Bool.and_eq_true, decide_eq_true_eq] at h
  unfold Fit
  omega

/-- The j-th number of a list (0 where there is none): a word that simp does not open. -/
def nth (zs : List Int) (j : Nat) : Int := zs.getD j 0

theorem nth_get {zs : List Int} {j : Nat} (h : j < zs.length) : nth zs j = zs[j] := by simp [nth, List.getD, h]

/-- The slice whose cells begin at A, of length n, reads as the list zs, and lies in blocks that are there. -/
def Ints (w : World) (A : Option Addr) (n : Nat) (zs : List Int) : Prop :=
  zs.length = n ∧ n * 8 ≤ 140737488351232 ∧ (∀ z ∈ zs, Fit z) ∧
    (0 < n → ∃ b o, A = some ⟨b, o, none⟩ ∧ b < w.heap.size ∧ ∀ j, j < n → w.cell? ⟨b, o + j, none⟩ = some (.int .i64 (nth zs j)))

/-- A row that the call has made itself, of int64. -/
def OwnI (E : TypeId) (w : World) (base : Nat) (A : Option Addr) (c : Nat) (zs : List Int) : Prop :=
  zs.length * 8 ≤ 140737488351232 ∧ (∀ z ∈ zs, Fit z) ∧ w.ownsRow base E 1 (.slice A zs.length c) zs.length (zs.map (Value.int .i64))

theorem Ints.keep {w w' : World} {A : Option Addr} {n : Nat} {zs : List Int} (h : Ints w A n zs) (hs : w.heap.size ≤ w'.heap.size)
    (hk : ∀ p : Addr, p.block < w.heap.size → w'.cell? p = w.cell? p) : Ints w' A n zs :=
  ⟨h.1, h.2.1, h.2.2.1, fun hn => by
    obtain ⟨b, o, e, hb, hc⟩ := h.2.2.2 hn
    exact ⟨b, o, e, by omega, fun j hj => (hk ⟨b, o + j, none⟩ hb).trans (hc j hj)⟩⟩

theorem Ints.below {w w' : World} {A : Option Addr} {n : Nat} {zs : List Int} (h : Ints w A n zs) (hb : Below w.heap.size w w') : Ints w' A n zs :=
  h.keep hb.size fun _ hp => hb.cell hp

theorem Ints.alloc {w : World} {A : Option Addr} {n : Nat} {zs : List Int} (h : Ints w A n zs) (o : Obj) : Ints (w.alloc o) A n zs :=
  h.below ((Below.refl _ _).alloc (Nat.le_refl _) o)

theorem Ints.nil_ (w : World) (A : Option Addr) : Ints w A 0 [] := ⟨rfl, by omega, by simp, fun h => by omega⟩

theorem OwnI.ints {E : TypeId} {w : World} {base : Nat} {A : Option Addr} {c : Nat} {zs : List Int} (h : OwnI E w base A c zs) : Ints w A zs.length zs := by
  obtain ⟨hl, hf, hown⟩ := h
  refine ⟨rfl, hl, hf, fun hn => ?_⟩
  obtain ⟨g, cap, hv, _, hlt⟩ := hown.form hn
  injection hv with hA _ _
  subst hA
  refine ⟨g, 0, rfl, hlt, fun j hj => ?_⟩
  have hc := hown.cells (g := g) rfl j (.int .i64 (nth zs j)) (by simp [List.getElem?_eq_getElem hj, nth])
  simpa [Addr.add_lit] using hc

theorem OwnI.below {E : TypeId} {w w' : World} {base : Nat} {A : Option Addr} {c : Nat} {zs : List Int} (h : OwnI E w base A c zs) (hb : Below w.heap.size w w') : OwnI E w' base A c zs :=
  ⟨h.1, h.2.1, h.2.2.kept (row := none) ⟨hb.os, hb.tape, hb.output, hb.size, fun k hk _ => hb.block k hk⟩ (by cases (Value.slice A zs.length c).ownBlock <;> simp)⟩

theorem OwnI.base {E : TypeId} {w : World} {base base' : Nat} {A : Option Addr} {c : Nat} {zs : List Int} (h : OwnI E w base A c zs) (hb : base' ≤ base) : OwnI E w base' A c zs := by
  obtain ⟨hl, hf, h1, h2⟩ := h
  refine ⟨hl, hf, h1, ?_⟩
  rcases h2 with h2 | ⟨g, cap, cur, e, hg, r⟩
  · exact .inl h2
  · exact .inr ⟨g, cap, cur, e, by omega, r⟩

theorem OwnI.nil_ (E : TypeId) (w : World) (base : Nat) : OwnI E w base none 0 [] := ⟨by simp, by simp, World.ownsRow_nil w base E 1⟩

theorem OwnI.made (E : TypeId) (base : Nat) (w : World) (hb : base ≤ w.heap.size := by exact Nat.le_refl _) : OwnI E (w.alloc (.cells #[] E)) base (some ⟨w.heap.size, 0, none⟩) 0 [] :=
  ⟨by simp, by simp, World.ownsRow_made w #[] 0 hb (by unfold maxLen; omega) (by simp)⟩

theorem ret_bool {a b : Bool} (h : a = b) : Ending.returned (.bool a) = .returned (.bool b) := by rw [h]
theorem ret_i64 {a b : Int} (h : a = b) : Ending.returned (.int .i64 a) = .returned (.int .i64 b) := by rw [h]

/-- What a call hands back: a new slice that reads as zs; what was there before is as it was. -/
def NewI (E : TypeId) (zs : List Int) (w : World) (e : Ending) (w' : World) : Prop :=
  ∃ A c, e = .returned (.slice A zs.length c) ∧ OwnI E w' w.heap.size A c zs ∧ Below w.heap.size w w'

/-- Behind a call that makes memory all old cells, and marks, read as before: as two rules of the walk. -/
theorem keepsB {W w1 : World} {B : Nat} (hb : Below B W w1) : (∀ b o, b < B → w1.cell? ⟨b, o, none⟩ = W.cell? ⟨b, o, none⟩) ∧ (∀ b o, b < B → w1.frozen? ⟨b, o, none⟩ = W.frozen? ⟨b, o, none⟩) :=
  ⟨fun b o h => hb.cell (p := ⟨b, o, none⟩) h, fun b o h => hb.frozen (p := ⟨b, o, none⟩) h⟩

/-- Where a row of the call's own that is not empty lies. -/
theorem OwnI.form {E : TypeId} {w : World} {base : Nat} {A : Option Addr} {c : Nat} {zs : List Int} (h : OwnI E w base A c zs) (hn : 0 < zs.length) :
    ∃ g, A = some ⟨g, 0, none⟩ ∧ base ≤ g ∧ g < w.heap.size ∧ zs.length ≤ c ∧ c ≤ maxLen := by
  obtain ⟨hl, hf, hrow⟩ := h
  rcases hrow.2 with ⟨h1, h2⟩ | ⟨g, cap, cur, e, hb, hh, hc, hm, _⟩
  · omega
  · injection e with e1 e2 e3
    subst e1 e3
    exact ⟨g, rfl, hb, (Array.getElem?_eq_some_iff.1 hh).1, hc, hm⟩

theorem OwnI.block {E : TypeId} {w : World} {base : Nat} {A : Option Addr} {c : Nat} {zs : List Int} (h : OwnI E w base A c zs) {n d : Nat} : ∀ k, (Value.slice A n d).ownBlock = some k → base ≤ k := by
  intro k hk
  refine (h.2.2.lt k ?_).1
  cases A with
  | none => simp [Value.ownBlock] at hk
  | some ad => simpa [Value.ownBlock] using hk

theorem OwnI.at_ {E : TypeId} {w : World} {base : Nat} {g c : Nat} {zs : List Int} (h : OwnI E w base (some ⟨g, 0, none⟩) c zs) {j : Nat} (hj : j < zs.length) :
    w.cell? ⟨g, j, none⟩ = some (.int .i64 (nth zs j)) ∧ w.frozen? ⟨g, j, none⟩ = false := by
  refine ⟨?_, h.2.2.frozenAt j⟩
  rw [h.2.2.cellAt j (by omega)]
  simp [hj, nth_get]

theorem OwnI.set_ {E : TypeId} {w : World} {base : Nat} {g c : Nat} {zs : List Int} (h : OwnI E w base (some ⟨g, 0, none⟩) c zs) (j : Nat) {x : Int} (hx : Fit x) :
    OwnI E (w.setCell ⟨g, j, none⟩ (.int .i64 x)) base (some ⟨g, 0, none⟩) c (zs.set j x) := by
  obtain ⟨hl, hf, hrow⟩ := h
  refine ⟨by simpa using hl, fun z hz => ?_, ?_⟩
  · rcases List.mem_or_eq_of_mem_set hz with h | h
    · exact hf z h
    · exact h ▸ hx
  · simpa using (hrow.stored j (.int .i64 x)).1

theorem Ints.append_src {w : World} {A : Option Addr} {n : Nat} {zs : List Int} (h : Ints w A n zs) {a : Addr} (e : A = some a) :
    ∀ j u, (zs.map (Value.int .i64))[j]? = some u → w.cell? (a.add j) = some u := by
  intro j u hu
  have hj : j < zs.length := by simpa using (List.getElem?_eq_some_iff.1 hu).1
  obtain ⟨b, o, e', _, hc⟩ := h.2.2.2 (by have := h.1; omega)
  rw [e'] at e
  injection e with e
  subst e
  rw [Addr.add_lit, hc j (by have := h.1; omega), nth_get hj]
  simpa [hj] using hu

theorem run_append_nothing {P : Program} (w : World) (base : Nat) (t ty e : TypeId) (i : TypeInfo) (ht : P.underlying t = some (.slice e)) (hi : P.info? e = some i)
    (v : Value) (n : Nat) (xs : List Value) (hown : w.ownsRow base e 1 v n xs) (d : Nat) :
    (Builtin.append_ #[t, t] ty #[v, .slice none 0 d]).run P w = .ok v w := by
  rcases hown.2 with ⟨rfl, rfl⟩ | ⟨g, cap, cur, rfl, _, _, hnc, _⟩
  all_goals simp [Builtin.append_, run_underlying ht, sizeOf, typeInfo, Builtin.lenOf, Builtin.firstCells, *, storeCells]

/-- What a row of the call's own has become. -/
def Longer (E : TypeId) (w : World) (base : Nat) (A : Option Addr) (c : Nat) (xs ys : List Int) (v : Value) (w' : World) : Prop :=
  ∃ A' c', v = .slice A' (xs ++ ys).length c' ∧ OwnI E w' base A' c' (xs ++ ys) ∧ w.grownBy w' (Value.slice A xs.length c).ownBlock

theorem run_append_ints {P : Program} (w : World) (t ty E : TypeId) (ht : P.underlying t = some (.slice E)) (hi : (P.info? E).map (fun i => (i.zero, i.size, i.bytes)) = some (some (.int .i64 0), 1, 8))
    (base : Nat) (A : Option Addr) (c : Nat) (xs : List Int) (hown : OwnI E w base A c xs) (B : Option Addr) (m d : Nat) (ys : List Int) (hy : Ints w B m ys)
    (hb : (xs.length + m) * 8 ≤ 140737488351232) (hbase : base ≤ w.heap.size) :
    ∃ v' w', (Builtin.append_ #[t, t] ty #[.slice A xs.length c, .slice B m d]).run P w = .ok v' w' ∧ Longer E w base A c xs ys v' w' := by
  obtain ⟨i, hi, hz0, hz1, hz2⟩ := info_parts hi
  obtain ⟨hl, hf, hrow⟩ := hown
  obtain ⟨ly, by_, fy, _⟩ := id hy
  have hff : ∀ z ∈ xs ++ ys, Fit z := fun z hz => (List.mem_append.1 hz).elim (hf z) (fy z)
  cases B with
  | none =>
    have hm : m = 0 := by
      rcases Nat.eq_zero_or_pos m with h | h
      · exact h
      · obtain ⟨b, o, e, _⟩ := hy.2.2.2 h
        cases e
    subst hm
    obtain rfl : ys = [] := List.eq_nil_of_length_eq_zero ly
    refine ⟨_, w, run_append_nothing w base t ty E i ht hi _ _ _ hrow d, A, c, by simp, ?_, World.grownBy.refl _ _⟩
    simpa [OwnI] using ⟨hl, hf, hrow⟩
  | some ad =>
    obtain ⟨v', w', hr, h2, h3, _⟩ := run_append_own_at (P := P) w base t ty E i (.int .i64 0) 1 8 ht hi hz0 hz1 hz2 rfl (by decide) _ _ _ hrow ad m d (ys.map (Value.int .i64)) (by simp [ly]) (hy.append_src rfl) (ints_oneCell .i64 ys)
      (by unfold maxLen; omega) (by omega) hbase
    refine ⟨v', w', hr, ?_⟩
    have e : ∃ A' c', v' = .slice A' (xs ++ ys).length c' := by
      rcases h2.2 with ⟨rfl, h0⟩ | ⟨g, cap, cur, rfl, _⟩
      · exact ⟨none, 0, by rw [List.length_append, ly, h0]⟩
      · exact ⟨_, cap, by rw [List.length_append, ly]⟩
    obtain ⟨A', c', rfl⟩ := e
    refine ⟨A', c', rfl, ⟨by rw [List.length_append]; omega, hff, ?_⟩, h3⟩
    simpa [ly] using h2

/-- append, at the operation: onto a row of the call's own, whatever slice comes behind. -/
theorem wpList_append_ints {P : Program} (w : World) {ops : Array Oper} {rest : List Oper} {o : Oper} {a : Act} {Q : Exit → Act → World → Prop} (hgd : o.guard = none) (s x : Operand) (t : TypeId)
    (ho : o.op = .call { callee := .builtin .append, args := #[s, x], argTypes := #[t, t] })
    (E : TypeId) (ht : P.underlying t = some (.slice E)) (hi : (P.info? E).map (fun i => (i.zero, i.size, i.bytes)) = some (some (.int .i64 0), 1, 8))
    (base : Nat) (A : Option Addr) (c : Nat) (xs : List Int) (n : Nat) (hn : n = xs.length) (hs : a.eval s = .slice A n c) (hown : OwnI E w base A c xs) (B : Option Addr) (m d : Nat) (ys : List Int) (hx : a.eval x = .slice B m d) (hy : Ints w B m ys)
    (hb : (xs.length + m) * 8 ≤ 140737488351232) (hbase : base ≤ w.heap.size)
    (h : ∀ A' c' w', OwnI E w' base A' c' (xs ++ ys) → w.grownBy w' (Value.slice A n c).ownBlock → wpList P ops Q rest (a.put o.dst (.slice A' (xs ++ ys).length c')) w') :
    wpList P ops Q (o :: rest) a w := by
  subst hn
  refine wpList_plain hgd fun K hK => ?_
  obtain ⟨v', w', hr, A', c', rfl, h2, h3⟩ := run_append_ints (P := P) w t o.type E ht hi base A c xs hown B m d ys hy hb hbase
  unfold Oper.wp execOp
  simp only [ho, resolve, invoke, builtin, Sem.run_bind, Sem.run_pure, Result.andThen_ok, List.map_toArray, List.map_cons, List.map_nil, hs, hx, hr]
  exact hK _ _ (h A' c' w' h2 h3)

/-- True, and new memory alone. -/
def TrueAns (w : World) (e : Ending) (w' : World) : Prop := e = .returned (.bool true) ∧ Below w.heap.size w w'

instance (z : Int) : Decidable (Fit z) := by unfold Fit; exact inferInstance

/-- Two steps of new memory, one behind the other. -/
theorem below3 {B : Nat} {w w1 w2 : World} (h1 : Below B w w1) (h2 : Below w1.heap.size w1 w2) (hB : B ≤ w.heap.size := by first | exact Nat.le_refl _ | omega) : Below B w w2 :=
  h1.trans (h2.mono (Nat.le_trans hB h1.size))

/-- A cell that is there, and may be written. -/
def At (w : World) (b o : Nat) (v : Value) : Prop := b < w.heap.size ∧ w.cell? ⟨b, o, none⟩ = some v ∧ w.frozen? ⟨b, o, none⟩ = false

theorem At.below {w w1 : World} {b o : Nat} {v : Value} (h : At w b o v) (hb : Below w.heap.size w w1) : At w1 b o v :=
  ⟨Nat.lt_of_lt_of_le h.1 hb.size, (hb.cell (p := ⟨b, o, none⟩) h.1).trans h.2.1, (hb.frozen (p := ⟨b, o, none⟩) h.1).trans h.2.2⟩

end Go.Proofs.Ytpfnoohcilefhaa

/-
  Plain words and lemmas for walks over tenants, over no program: a slice of tenants (structs of five numbers) that reads as a list; a row of them of the call's own, and how all are kept.
-/
import Derived.Test.YtpfnoohcilefhaaOct
import Derived.Test.YtpfnoohcilefhaaBlk
namespace Go.Proofs.Ytpfnoohcilefhaa
open Go.RowKit

/-- A tenant: its weight, its quota, how many it has, its tag, what was run. -/
structure Tn where
  (wt qu li tg rn : Int)
deriving DecidableEq

abbrev nilTn : Tn := ⟨0, 0, 0, 0, 0⟩
/-- Its cells. -/
def tnc (x : Tn) : Array Value := #[.int .i64 x.wt, .int .i64 x.qu, .int .i64 x.li, .int .i64 x.tg, .int .i64 x.rn]

def tth (p : List Tn) (j : Nat) : Tn := p.getD j nilTn
def FitTn (x : Tn) : Prop := Fit x.wt ∧ Fit x.qu ∧ Fit x.li ∧ Fit x.tg ∧ Fit x.rn

theorem tth_get {p : List Tn} {j : Nat} (h : j < p.length) : tth p j = p[j] := by simp [tth, List.getD, h]

/-- The slice whose cells begin at A, of n tenants (with room for c), reads as the list p. -/
def Tns (w : World) (A : Option Addr) (n c : Nat) (p : List Tn) : Prop :=
  p.length = n ∧ (n ≤ c ∧ c ≤ 9223372036854775807) ∧ (∀ x ∈ p, FitTn x) ∧
    (0 < n → ∃ b o, A = some ⟨b, o, none⟩ ∧ b < w.heap.size ∧ ∀ j, j < n →
      w.cell? ⟨b, o + j * 5, none⟩ = some (.int .i64 (tth p j).wt) ∧ w.cell? ⟨b, o + j * 5 + 1, none⟩ = some (.int .i64 (tth p j).qu) ∧ w.cell? ⟨b, o + j * 5 + 2, none⟩ = some (.int .i64 (tth p j).li) ∧ w.cell? ⟨b, o + j * 5 + 3, none⟩ = some (.int .i64 (tth p j).tg) ∧ w.cell? ⟨b, o + j * 5 + 4, none⟩ = some (.int .i64 (tth p j).rn))

theorem Tns.keep {w w' : World} {A : Option Addr} {n c : Nat} {p : List Tn} (h : Tns w A n c p) (hs : w.heap.size ≤ w'.heap.size)
    (hk : ∀ q : Addr, q.block < w.heap.size → w'.cell? q = w.cell? q) : Tns w' A n c p :=
  ⟨h.1, h.2.1, h.2.2.1, fun hn => by
    obtain ⟨b, o, e, hb, hc⟩ := h.2.2.2 hn
    refine ⟨b, o, e, by omega, fun j hj => ?_⟩
    obtain ⟨h0, h1, h2, h3, h4⟩ := hc j hj
    exact ⟨(hk ⟨b, _, none⟩ hb).trans h0, (hk ⟨b, _, none⟩ hb).trans h1, (hk ⟨b, _, none⟩ hb).trans h2, (hk ⟨b, _, none⟩ hb).trans h3, (hk ⟨b, _, none⟩ hb).trans h4⟩⟩

theorem Tns.below {w w' : World} {A : Option Addr} {n c : Nat} {p : List Tn} (h : Tns w A n c p) (hb : Below w.heap.size w w') : Tns w' A n c p :=
  h.keep hb.size fun _ hp => hb.cell hp

theorem Tns.alloc {w : World} {A : Option Addr} {n c : Nat} {p : List Tn} (h : Tns w A n c p) (o : Obj) : Tns (w.alloc o) A n c p := h.below ((Below.refl _ _).alloc (Nat.le_refl _) o)

theorem Tns.nil_ (w : World) (A : Option Addr) {c : Nat} (hc : c ≤ 9223372036854775807) : Tns w A 0 c [] := ⟨rfl, by omega, by simp, fun h => by omega⟩

theorem Tns.fit {w : World} {A : Option Addr} {n c : Nat} {p : List Tn} (h : Tns w A n c p) {j : Nat} (hj : j < n) : FitTn (tth p j) := by
  have hl : j < p.length := by rw [h.1]; exact hj
  have := h.2.2.1 _ (List.getElem_mem hl)
  rw [← tth_get hl] at this
  exact this

/-- One round's cells. -/
theorem Tns.at_ {w : World} {A : Option Addr} {n c : Nat} {p : List Tn} (h : Tns w A n c p) {j : Nat} (hj : j < n) : ∃ b o, A = some ⟨b, o, none⟩ ∧ b < w.heap.size ∧
    w.cell? ⟨b, o + j * 5, none⟩ = some (.int .i64 (tth p j).wt) ∧ w.cell? ⟨b, o + j * 5 + 1, none⟩ = some (.int .i64 (tth p j).qu) ∧ w.cell? ⟨b, o + j * 5 + 2, none⟩ = some (.int .i64 (tth p j).li) ∧ w.cell? ⟨b, o + j * 5 + 3, none⟩ = some (.int .i64 (tth p j).tg) ∧ w.cell? ⟨b, o + j * 5 + 4, none⟩ = some (.int .i64 (tth p j).rn) := by
  obtain ⟨b, o, e, hb, hc⟩ := h.2.2.2 (by omega)
  exact ⟨b, o, e, hb, hc j hj⟩

theorem tth_take {p : List Tn} {k j : Nat} (h : j < k) : tth (p.take k) j = tth p j := by simp [tth, List.getD, h]

/-- A beginning of it. -/
theorem Tns.take {w : World} {A : Option Addr} {n c : Nat} {p : List Tn} (h : Tns w A n c p) {k : Nat} (hk : k ≤ n) : Tns w A k c (p.take k) := by
  have h1 := h.1
  have h2 := h.2.1
  refine ⟨by rw [List.length_take]; omega, by omega, fun x hx => h.2.2.1 x (List.mem_of_mem_take hx), fun hn => ?_⟩
  obtain ⟨b, o, e, hb, hc⟩ := h.2.2.2 (by omega)
  refine ⟨b, o, e, hb, fun j hj => ?_⟩
  rw [tth_take hj]
  exact hc j (by omega)

/-- Its cells, one behind the other. -/
def cellsOne5 (x : Tn) : List Value := [.int .i64 x.wt, .int .i64 x.qu, .int .i64 x.li, .int .i64 x.tg, .int .i64 x.rn]
def cellsTn (p : List Tn) : List Value := p.flatMap cellsOne5

theorem cellsTn_len (p : List Tn) : (cellsTn p).length = p.length * 5 := by
  induction p with
  | nil => rfl
  | cons x p ih => simp only [cellsTn, List.flatMap_cons, List.length_append, List.length_cons] at ih ⊢; rw [ih]; simp [cellsOne5]; omega

theorem cellsTn_app (p q : List Tn) : cellsTn (p ++ q) = cellsTn p ++ cellsTn q := by simp [cellsTn]

theorem cellsTn_one (p : List Tn) : ∀ u ∈ cellsTn p, u.oneCell' = true := by
  intro u hu
  obtain ⟨x, _, hx⟩ := List.mem_flatMap.1 hu
  simp only [cellsOne5, List.mem_cons, List.not_mem_nil, or_false] at hx
  rcases hx with rfl | rfl | rfl | rfl | rfl <;> rfl

theorem cellsTn_at (p : List Tn) : ∀ {j : Nat}, j < p.length → (cellsTn p)[j * 5]? = some (.int .i64 (tth p j).wt) ∧ (cellsTn p)[j * 5 + 1]? = some (.int .i64 (tth p j).qu) ∧ (cellsTn p)[j * 5 + 2]? = some (.int .i64 (tth p j).li) ∧ (cellsTn p)[j * 5 + 3]? = some (.int .i64 (tth p j).tg) ∧ (cellsTn p)[j * 5 + 4]? = some (.int .i64 (tth p j).rn) := by
  induction p with
  | nil => intro j hj; simp at hj
  | cons x p ih =>
    intro j hj
    match j with
    | 0 => exact ⟨rfl, rfl, rfl, rfl, rfl⟩
    | j + 1 =>
      have := ih (j := j) (by simpa using hj)
      have e : ∀ k, (cellsTn (x :: p))[(j + 1) * 5 + k]? = (cellsTn p)[j * 5 + k]? := fun k => by
        rw [show (j + 1) * 5 + k = (cellsOne5 x).length + (j * 5 + k) by simp [cellsOne5]; omega]
        simp only [cellsTn, List.flatMap_cons]
        rw [List.getElem?_append_right (by omega)]
        congr 1
        omega
      have e0 := e 0
      simp only [Nat.add_zero] at e0
      rw [e0, e 1, e 2, e 3, e 4]
      exact this

/-- The cells of such a slice, by their number. -/
theorem Tns.src {w : World} {A : Option Addr} {n c : Nat} {p : List Tn} (h : Tns w A n c p) {a : Addr} (e : A = some a) : ∀ j u, (cellsTn p)[j]? = some u → w.cell? (a.add j) = some u := by
  intro j u hu
  have hj : j < p.length * 5 := by rw [← cellsTn_len]; exact (List.getElem?_eq_some_iff.1 hu).1
  obtain ⟨b, o, e', _, hc⟩ := h.2.2.2 (by have := h.1; omega)
  rw [e'] at e
  injection e with e
  subst e
  rw [Addr.add_lit]
  have hq : j / 5 < p.length := by omega
  obtain ⟨c0, c1, c2, c3, c4⟩ := hc (j / 5) (by have := h.1; omega)
  obtain ⟨d0, d1, d2, d3, d4⟩ := cellsTn_at p hq
  have hr : j % 5 = 0 ∨ j % 5 = 1 ∨ j % 5 = 2 ∨ j % 5 = 3 ∨ j % 5 = 4 := by omega
  rcases hr with hr | hr | hr | hr | hr
  · rw [show j = j / 5 * 5 by omega] at hu ⊢
    rw [d0] at hu; rw [← hu]; exact c0
  · rw [show j = j / 5 * 5 + 1 by omega] at hu ⊢
    rw [d1] at hu; rw [← hu, ← Nat.add_assoc]; exact c1
  · rw [show j = j / 5 * 5 + 2 by omega] at hu ⊢
    rw [d2] at hu; rw [← hu, ← Nat.add_assoc]; exact c2
  · rw [show j = j / 5 * 5 + 3 by omega] at hu ⊢
    rw [d3] at hu; rw [← hu, ← Nat.add_assoc]; exact c3
  · rw [show j = j / 5 * 5 + 4 by omega] at hu ⊢
    rw [d4] at hu; rw [← hu, ← Nat.add_assoc]; exact c4

/-- A row of tenants that the call has made itself. -/
def OwnTn (E : TypeId) (w : World) (base : Nat) (A : Option Addr) (c : Nat) (p : List Tn) : Prop :=
  p.length * 40 ≤ 140737488351232 ∧ (∀ x ∈ p, FitTn x) ∧ w.ownsRow base E 5 (.slice A p.length c) p.length (cellsTn p)

theorem OwnTn.tns {E : TypeId} {w : World} {base : Nat} {A : Option Addr} {c : Nat} {p : List Tn} (h : OwnTn E w base A c p) : Tns w A p.length c p := by
  obtain ⟨hl, hf, hown⟩ := h
  refine ⟨rfl, ?_, hf, fun hn => ?_⟩
  · rcases hown.2 with ⟨h1, h2⟩ | ⟨g, cap, cur, e, hb, hh, hc, hm, _⟩
    · injection h1 with _ _ h1
      omega
    · injection e with e1 e2 e3
      subst e3
      unfold maxLen at hm
      omega
  obtain ⟨g, cap, hv, _, hlt⟩ := hown.form hn
  injection hv with hA _ _
  subst hA
  refine ⟨g, 0, rfl, hlt, fun j hj => ?_⟩
  obtain ⟨d0, d1, d2, d3, d4⟩ := cellsTn_at p hj
  have g0 := hown.cells (g := g) rfl _ _ d0
  have g1 := hown.cells (g := g) rfl _ _ d1
  have g2 := hown.cells (g := g) rfl _ _ d2
  have g3 := hown.cells (g := g) rfl _ _ d3
  have g4 := hown.cells (g := g) rfl _ _ d4
  rw [Addr.add_lit] at g0 g1 g2 g3 g4
  exact ⟨g0, by rw [Nat.add_assoc]; exact g1, by rw [Nat.add_assoc]; exact g2, by rw [Nat.add_assoc]; exact g3, by rw [Nat.add_assoc]; exact g4⟩

theorem OwnTn.below {E : TypeId} {w w' : World} {base : Nat} {A : Option Addr} {c : Nat} {p : List Tn} (h : OwnTn E w base A c p) (hb : Below w.heap.size w w') : OwnTn E w' base A c p :=
  ⟨h.1, h.2.1, h.2.2.kept (row := none) ⟨hb.os, hb.tape, hb.output, hb.size, fun k hk _ => hb.block k hk⟩ (by cases (Value.slice A p.length c).ownBlock <;> simp)⟩

theorem OwnTn.base {E : TypeId} {w : World} {base base' : Nat} {A : Option Addr} {c : Nat} {p : List Tn} (h : OwnTn E w base A c p) (hb : base' ≤ base) : OwnTn E w base' A c p := by
  obtain ⟨hl, hf, h1, h2⟩ := h
  refine ⟨hl, hf, h1, ?_⟩
  rcases h2 with h2 | ⟨g, cap, cur, e, hg, r⟩
  · exact .inl h2
  · exact .inr ⟨g, cap, cur, e, by omega, r⟩

theorem OwnTn.nil_ (E : TypeId) (w : World) (base : Nat) : OwnTn E w base none 0 [] := ⟨by simp, by simp, World.ownsRow_nil w base E 5⟩

theorem OwnTn.block {E : TypeId} {w : World} {base : Nat} {A : Option Addr} {c : Nat} {p : List Tn} (h : OwnTn E w base A c p) {n d : Nat} : ∀ k, (Value.slice A n d).ownBlock = some k → base ≤ k := by
  intro k hk
  refine (h.2.2.lt k ?_).1
  cases A with
  | none => simp [Value.ownBlock] at hk
  | some ad => simpa [Value.ownBlock] using hk
theorem OwnTn.made (E : TypeId) (w : World) : OwnTn E (w.alloc (.cells #[] E)) w.heap.size (some ⟨w.heap.size, 0, none⟩) 0 [] :=
  ⟨by simp, by simp, World.ownsRow_made w #[] 0 (Nat.le_refl _) (by unfold maxLen; omega) (by simp)⟩
theorem OwnTn.some_ {E : TypeId} {w : World} {base : Nat} {A : Option Addr} {c : Nat} {p : List Tn} (h : OwnTn E w base A c p) (hn : 0 < p.length) : ∃ g, A = some ⟨g, 0, none⟩ ∧ g < w.heap.size ∧ base ≤ g := by
  obtain ⟨g, cap, hv, hb, hlt⟩ := h.2.2.form hn
  injection hv with hA _ _
  exact ⟨g, hA, hlt, hb⟩

theorem run_append_noneTn {P : Program} (w : World) (base : Nat) (t ty e : TypeId) (i : TypeInfo) (sz : Nat) (ht : P.underlying t = some (.slice e)) (hi : P.info? e = some i)
    (v : Value) (n : Nat) (xs : List Value) (hown : w.ownsRow base e sz v n xs) (d : Nat) :
    (Builtin.append_ #[t, t] ty #[v, .slice none 0 d]).run P w = .ok v w := by
  rcases hown.2 with ⟨rfl, rfl⟩ | ⟨g, cap, cur, rfl, _, _, hnc, _⟩
  all_goals simp [Builtin.append_, run_underlying ht, sizeOf, typeInfo, Builtin.lenOf, Builtin.firstCells, *, storeCells]

theorem run_append_tns {P : Program} (w : World) (t ty E : TypeId) (z : Value) (hzs : z.cells.size = 5) (ht : P.underlying t = some (.slice E)) (hi : (P.info? E).map (fun i => (i.zero, i.size, i.bytes)) = some (some z, 5, 40))
    (base : Nat) (A : Option Addr) (c : Nat) (xs : List Tn) (hown : OwnTn E w base A c xs) (B : Option Addr) (m d : Nat) (ys : List Tn) (hy : Tns w B m d ys)
    (hb : (xs.length + m) * 40 ≤ 140737488351232) (hbase : base ≤ w.heap.size) :
    ∃ A' c' w', (Builtin.append_ #[t, t] ty #[.slice A xs.length c, .slice B m d]).run P w = .ok (.slice A' (xs ++ ys).length c') w' ∧ OwnTn E w' base A' c' (xs ++ ys) ∧ w.grownBy w' (Value.slice A xs.length c).ownBlock := by
  obtain ⟨i, hi, hz0, hz1, hz2⟩ := info_parts hi
  obtain ⟨hl, hf, hrow⟩ := hown
  obtain ⟨ly, by_, fy, _⟩ := id hy
  have hff : ∀ z ∈ xs ++ ys, FitTn z := fun z hz => (List.mem_append.1 hz).elim (hf z) (fy z)
  cases B with
  | none =>
    have hm : m = 0 := by
      rcases Nat.eq_zero_or_pos m with h | h
      · exact h
      · obtain ⟨b, o, e, _⟩ := hy.2.2.2 h
        cases e
    subst hm
    obtain rfl : ys = [] := List.eq_nil_of_length_eq_zero ly
    refine ⟨A, c, w, ?_, ?_, World.grownBy.refl _ _⟩
    · simpa using run_append_noneTn w base t ty E i 5 ht hi _ _ _ hrow d
    · rw [List.append_nil]; exact ⟨hl, hf, hrow⟩
  | some ad =>
    obtain ⟨v', w', hr, h2, h3, _⟩ := run_append_own_at (P := P) w base t ty E i z 5 40 ht hi hz0 hz1 hz2 hzs (by decide) _ _ _ hrow ad m d (cellsTn ys) (by rw [cellsTn_len, ly]) (hy.src rfl) (cellsTn_one ys)
      (by unfold maxLen; omega) (by omega) hbase
    have e : ∃ A' c', v' = .slice A' (xs ++ ys).length c' := by
      rcases h2.2 with ⟨rfl, h0⟩ | ⟨g, cap, cur, rfl, _⟩
      · exact ⟨none, 0, by rw [List.length_append, ly, h0]⟩
      · exact ⟨_, cap, by rw [List.length_append, ly]⟩
    obtain ⟨A', c', rfl⟩ := e
    refine ⟨A', c', w', hr, ⟨by rw [List.length_append]; omega, hff, ?_⟩, h3⟩
    rw [cellsTn_app]
    simpa [ly] using h2

/-- append, at the operation: onto a row of tenants of the call's own, whatever slice of them comes behind. -/
theorem wpList_append_tns {P : Program} (w : World) {ops : Array Oper} {rest : List Oper} {o : Oper} {a : Act} {Q : Exit → Act → World → Prop} (hgd : o.guard = none) (s x : Operand) (t : TypeId)
    (ho : o.op = .call { callee := .builtin .append, args := #[s, x], argTypes := #[t, t] })
    (E : TypeId) (z : Value) (hzs : z.cells.size = 5) (ht : P.underlying t = some (.slice E)) (hi : (P.info? E).map (fun i => (i.zero, i.size, i.bytes)) = some (some z, 5, 40))
    (base : Nat) (A : Option Addr) (c : Nat) (xs : List Tn) (n : Nat) (hn : n = xs.length) (hs : a.eval s = .slice A n c) (hown : OwnTn E w base A c xs) (B : Option Addr) (m d : Nat) (ys : List Tn) (hx : a.eval x = .slice B m d) (hy : Tns w B m d ys)
    (hb : (xs.length + m) * 40 ≤ 140737488351232) (hbase : base ≤ w.heap.size)
    (h : ∀ A' c' w', OwnTn E w' base A' c' (xs ++ ys) → w.grownBy w' (Value.slice A n c).ownBlock → wpList P ops Q rest (a.put o.dst (.slice A' (xs ++ ys).length c')) w') :
    wpList P ops Q (o :: rest) a w := by
  subst hn
  refine wpList_plain hgd fun K hK => ?_
  obtain ⟨A', c', w', hr, h2, h3⟩ := run_append_tns (P := P) w t o.type E z hzs ht hi base A c xs hown B m d ys hy hb hbase
  unfold Oper.wp execOp
  simp only [ho, resolve, invoke, builtin, Sem.run_bind, Sem.run_pure, Result.andThen_ok, List.map_toArray, List.map_cons, List.map_nil, hs, hx, hr]
  exact hK _ _ (h A' c' w' h2 h3)

abbrev RowTn (E : TypeId) (w : World) (base g c : Nat) (l : List Tn) : Prop := OwnTn E w base (some ⟨g, 0, none⟩) c l
/-- Five stores: a tenant at a place of a row. -/
def put5 (w : World) (g i : Nat) (x : Tn) : World := ((((w.setCell ⟨g, i * 5, none⟩ (.int .i64 x.wt)).setCell ⟨g, i * 5 + 1, none⟩ (.int .i64 x.qu)).setCell ⟨g, i * 5 + 2, none⟩ (.int .i64 x.li)).setCell ⟨g, i * 5 + 3, none⟩ (.int .i64 x.tg)).setCell ⟨g, i * 5 + 4, none⟩ (.int .i64 x.rn)
theorem cellsTn_set : ∀ (l : List Tn) (i : Nat) (x : Tn), (((((cellsTn l).set (i * 5) (.int .i64 x.wt)).set (i * 5 + 1) (.int .i64 x.qu)).set (i * 5 + 2) (.int .i64 x.li)).set (i * 5 + 3) (.int .i64 x.tg)).set (i * 5 + 4) (.int .i64 x.rn) = cellsTn (l.set i x)
  | [], _, _ => by simp [cellsTn]
  | t :: l, 0, x => by simp [cellsTn, cellsOne5]
  | t :: l, i + 1, x => by
    have ih := cellsTn_set l i x
    have e : cellsTn (t :: l) = [Value.int .i64 t.wt, Value.int .i64 t.qu, Value.int .i64 t.li, Value.int .i64 t.tg, Value.int .i64 t.rn] ++ cellsTn l := by simp [cellsTn, cellsOne5]
    have e2 : cellsTn ((t :: l).set (i + 1) x) = [Value.int .i64 t.wt, Value.int .i64 t.qu, Value.int .i64 t.li, Value.int .i64 t.tg, Value.int .i64 t.rn] ++ cellsTn (l.set i x) := by simp [cellsTn, cellsOne5]
    rw [e, e2, ← ih, show (i + 1) * 5 = i * 5 + 5 by omega]
    simp
theorem tth_succ (t : Tn) (l : List Tn) (i : Nat) : tth (t :: l) (i + 1) = tth l i := by simp [tth, List.getD]
theorem cellsTn_li : ∀ (l : List Tn) (i : Nat) (z : Int), (cellsTn l).set (i * 5 + 2) (.int .i64 z) = cellsTn (l.set i { tth l i with li := z })
  | [], _, _ => by simp [cellsTn]
  | t :: l, 0, z => by simp [cellsTn, cellsOne5, tth]
  | t :: l, i + 1, z => by
    have ih := cellsTn_li l i z
    have e : cellsTn (t :: l) = [Value.int .i64 t.wt, Value.int .i64 t.qu, Value.int .i64 t.li, Value.int .i64 t.tg, Value.int .i64 t.rn] ++ cellsTn l := by simp [cellsTn, cellsOne5]
    have e2 : cellsTn ((t :: l).set (i + 1) { tth (t :: l) (i + 1) with li := z }) = [Value.int .i64 t.wt, Value.int .i64 t.qu, Value.int .i64 t.li, Value.int .i64 t.tg, Value.int .i64 t.rn] ++ cellsTn (l.set i { tth l i with li := z }) := by rw [tth_succ]; simp [cellsTn, cellsOne5]
    rw [e, e2, ← ih, show (i + 1) * 5 + 2 = i * 5 + 2 + 5 by omega]
    simp
theorem cellsTn_rn : ∀ (l : List Tn) (i : Nat) (z : Int), (cellsTn l).set (i * 5 + 4) (.int .i64 z) = cellsTn (l.set i { tth l i with rn := z })
  | [], _, _ => by simp [cellsTn]
  | t :: l, 0, z => by simp [cellsTn, cellsOne5, tth]
  | t :: l, i + 1, z => by
    have ih := cellsTn_rn l i z
    have e : cellsTn (t :: l) = [Value.int .i64 t.wt, Value.int .i64 t.qu, Value.int .i64 t.li, Value.int .i64 t.tg, Value.int .i64 t.rn] ++ cellsTn l := by simp [cellsTn, cellsOne5]
    have e2 : cellsTn ((t :: l).set (i + 1) { tth (t :: l) (i + 1) with rn := z }) = [Value.int .i64 t.wt, Value.int .i64 t.qu, Value.int .i64 t.li, Value.int .i64 t.tg, Value.int .i64 t.rn] ++ cellsTn (l.set i { tth l i with rn := z }) := by rw [tth_succ]; simp [cellsTn, cellsOne5]
    rw [e, e2, ← ih, show (i + 1) * 5 + 4 = i * 5 + 4 + 5 by omega]
    simp
section
variable {E : TypeId} {w : World} {base g c : Nat} {l : List Tn}
theorem OwnTn.put (h : RowTn E w base g c l) (i : Nat) {x : Tn} (hx : FitTn x) : RowTn E (put5 w g i x) base g c (l.set i x) := by
  obtain ⟨h1, h2, h3⟩ := h
  refine ⟨by rw [List.length_set]; exact h1, fun y hy => ?_, ?_⟩
  · rcases List.mem_or_eq_of_mem_set hy with h | h
    · exact h2 y h
    · rw [h]; exact hx
  · have a := (h3.stored (i * 5) (.int .i64 x.wt)).1
    have b := (a.stored (i * 5 + 1) (.int .i64 x.qu)).1
    have d := (b.stored (i * 5 + 2) (.int .i64 x.li)).1
    have e := (d.stored (i * 5 + 3) (.int .i64 x.tg)).1
    have f := (e.stored (i * 5 + 4) (.int .i64 x.rn)).1
    rw [cellsTn_set] at f
    rw [List.length_set]
    exact f
/-- One store: one cell of a tenant at a place of a row. -/
theorem OwnTn.put1 (h : RowTn E w base g c l) {i : Nat} {x : Tn} (hx : FitTn x) (k : Nat) (v : Value) (hs : (cellsTn l).set (i * 5 + k) v = cellsTn (l.set i x)) : RowTn E (w.setCell ⟨g, i * 5 + k, none⟩ v) base g c (l.set i x) := by
  obtain ⟨h1, h2, h3⟩ := h
  refine ⟨by rw [List.length_set]; exact h1, fun y hy => ?_, ?_⟩
  · rcases List.mem_or_eq_of_mem_set hy with h | h
    · exact h2 y h
    · rw [h]; exact hx
  · have a := (h3.stored (i * 5 + k) v).1
    rw [hs] at a
    rw [List.length_set]
    exact a
theorem OwnTn.setLi (h : RowTn E w base g c l) (i : Nat) {z : Int} (hx : FitTn { tth l i with li := z }) : RowTn E (w.setCell ⟨g, i * 5 + 2, none⟩ (.int .i64 z)) base g c (l.set i { tth l i with li := z }) := h.put1 hx 2 _ (cellsTn_li l i z)
theorem OwnTn.setRn (h : RowTn E w base g c l) (i : Nat) {z : Int} (hx : FitTn { tth l i with rn := z }) : RowTn E (w.setCell ⟨g, i * 5 + 4, none⟩ (.int .i64 z)) base g c (l.set i { tth l i with rn := z }) := h.put1 hx 4 _ (cellsTn_rn l i z)
theorem OwnTn.at5 (h : RowTn E w base g c l) {i : Nat} (hi : i < l.length) :
    (w.cell? ⟨g, i * 5, none⟩ = some (.int .i64 (tth l i).wt) ∧ w.cell? ⟨g, i * 5 + 1, none⟩ = some (.int .i64 (tth l i).qu) ∧ w.cell? ⟨g, i * 5 + 2, none⟩ = some (.int .i64 (tth l i).li) ∧ w.cell? ⟨g, i * 5 + 3, none⟩ = some (.int .i64 (tth l i).tg) ∧ w.cell? ⟨g, i * 5 + 4, none⟩ = some (.int .i64 (tth l i).rn)) ∧
      w.frozen? ⟨g, i * 5, none⟩ = false ∧ w.frozen? ⟨g, i * 5 + 1, none⟩ = false ∧ w.frozen? ⟨g, i * 5 + 2, none⟩ = false ∧ w.frozen? ⟨g, i * 5 + 3, none⟩ = false ∧ w.frozen? ⟨g, i * 5 + 4, none⟩ = false := by
  obtain ⟨d0, d1, d2, d3, d4⟩ := cellsTn_at l hi
  have g0 := h.2.2.cells (g := g) rfl _ _ d0
  have g1 := h.2.2.cells (g := g) rfl _ _ d1
  have g2 := h.2.2.cells (g := g) rfl _ _ d2
  have g3 := h.2.2.cells (g := g) rfl _ _ d3
  have g4 := h.2.2.cells (g := g) rfl _ _ d4
  rw [Addr.add_lit] at g0 g1 g2 g3 g4
  rw [Nat.zero_add] at g0 g1 g2 g3 g4
  exact ⟨⟨g0, g1, g2, g3, g4⟩, h.2.2.frozenAt _, h.2.2.frozenAt _, h.2.2.frozenAt _, h.2.2.frozenAt _, h.2.2.frozenAt _⟩
theorem OwnTn.lt (h : RowTn E w base g c l) : base ≤ g ∧ g < w.heap.size := h.2.2.lt g rfl
theorem OwnTn.cap (h : RowTn E w base g c l) : l.length ≤ c ∧ c ≤ 9223372036854775807 := h.tns.2.1
end
theorem below_put5 {B : Nat} {a w : World} (h : Below B a w) {g : Nat} (hg : B ≤ g) (i : Nat) (x : Tn) : Below B a (put5 w g i x) :=
  ((((h.setCell (p := ⟨g, i * 5, none⟩) hg _).setCell (p := ⟨g, i * 5 + 1, none⟩) hg _).setCell (p := ⟨g, i * 5 + 2, none⟩) hg _).setCell (p := ⟨g, i * 5 + 3, none⟩) hg _).setCell (p := ⟨g, i * 5 + 4, none⟩) hg _

theorem tth_set {l : List Tn} {i : Nat} (hi : i < l.length) (x : Tn) (j : Nat) : tth (l.set i x) j = if j = i then x else tth l j := by
  unfold tth
  by_cases h : j = i
  · subst h; simp [hi]
  · have : i ≠ j := fun e => h e.symm
    simp [List.getD, this, h]

end Go.Proofs.Ytpfnoohcilefhaa
